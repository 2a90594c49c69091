import PyProof.Rows.All
import Wide.All
import OpenK.AllK
import Wide.FinOn
import Lean
import PyProof.EqAt
import PyProof.EqKinds
import PyProof.TupleCall
import KE.KIntText
import PySem.Challenge.RW_plait_k91_drawings_as_lines
set_option Elab.async false
set_option linter.all false
set_option maxRecDepth 100000
set_option maxHeartbeats 4000000
namespace L2
open PySem PySem.Spec PyProof.Rows
noncomputable abbrev Key:=Sum Int Str
noncomputable def Vd:Key->Value->Bool
 | .inl k,v=>Value.isInt k v
 | .inr x,v=>Value.isStrOf x v
noncomputable def MU (w:World):Key->Int
 | .inl k=>hashInt k
 | .inr x=>hashStr w x
theorem Yb:∀{k:Key}{v:Value},Vd k v=true->(∃i t,k=Sum.inl i/\v=Value.int i t)∨(∃x t,k=Sum.inr x/\v=Value.str x t)
 | .inl i,v,h=>by
  obtain⟨t,e⟩:=Value.isInt_shape (k:=i) (v:=v) h
  exact .inl ⟨i,t,rfl,e⟩
 | .inr x,v,h=>by
  obtain⟨t,e⟩:=Value.isStrOf_shape (x:=x) (v:=v) h
  exact .inr ⟨x,t,rfl,e⟩
theorem Db (i:Int)(t:Tok):Vd (.inl i) (.int i t)=true:=by simp[Vd,Value.isInt]
theorem CJ (x:Str)(t:Tok):Vd (.inr x) (.str x t)=true:=by simp[Vd,Value.isStrOf]
theorem Il (a b:Int):decide ((Sum.inl a:Key)=Sum.inl b)=(a==b):=by
 by_cases e:a=b
 ·subst e;simp
 ·have h:¬(Sum.inl a:Key)=Sum.inl b:=λq=>e (Sum.inl.inj q)
  rw[decide_eq_false h]
  exact(beq_eq_false_iff_ne.mpr e).symm
theorem IJ (a b:Str):decide ((Sum.inr a:Key)=Sum.inr b)=decide (a=b):=by
 by_cases e:a=b
 ·subst e;simp
 ·have h:¬(Sum.inr a:Key)=Sum.inr b:=λq=>e (Sum.inr.inj q)
  rw[decide_eq_false h,decide_eq_false e]
theorem Iu (a:Int)(b:Str):decide ((Sum.inl a:Key)=Sum.inr b)=false:=decide_eq_false (λq=>nomatch q)
theorem IS (a:Str)(b:Int):decide ((Sum.inr a:Key)=Sum.inl b)=false:=decide_eq_false (λq=>nomatch q)
noncomputable def X1 (prog:Program)(w:World):PySem.KeyKind prog w Key where
 is:=Vd
 hash:=MU w
 inj:=λv a b ha hb=>by
  rcases Yb ha with⟨i,t,rfl,rfl⟩ | ⟨x,t,rfl,rfl⟩
  ·rcases Yb hb with⟨j,u,rfl,e⟩ | ⟨y,u,rfl,e⟩
   ·injection e with e1 _;rw[e1]
   ·exact nomatch e
  ·rcases Yb hb with⟨j,u,rfl,e⟩ | ⟨y,u,rfl,e⟩
   ·exact nomatch e
   ·injection e with e1 _;rw[e1]
 byValue:=λk v h=>by
  rcases Yb h with⟨i,t,rfl,rfl⟩ | ⟨x,t,rfl,rfl⟩<;> rfl
 pyHash:=λhv h=>by
  rcases Yb hv with⟨i,t,rfl,rfl⟩ | ⟨x,t,rfl,rfl⟩
  ·exact wpAny_pyHash_int h
  ·exact wpAny_pyHash_str h
 eqBool:=λhu hv h=>by
  rcases Yb hu with⟨i,t,rfl,rfl⟩ | ⟨x,t,rfl,rfl⟩
  ·rcases Yb hv with⟨j,u,rfl,rfl⟩ | ⟨y,u,rfl,rfl⟩
   ·rw[Il] at h;exact wpAny_eqBool_int h
   ·rw[Iu] at h;exact SeqAt.EqAt.int_str i t y u _ _ _ _ h
  ·rcases Yb hv with⟨j,u,rfl,rfl⟩ | ⟨y,u,rfl,rfl⟩
   ·rw[IS] at h;exact SeqAt.EqAt.str_int x t j u _ _ _ _ h
   ·rw[IJ] at h;exact wpAny_eqBool_str h
 «strs»:=λk x t v h=>by
  rcases Yb h with⟨i,u,rfl,e⟩ | ⟨y,u,rfl,e⟩
  ·exact nomatch e
  ·injection e with e1 _
   subst e1
   cases v<;> rfl
theorem KC (prog:Program)(w:World)(i:Int)(t:Tok):(X1 prog w).is (.inl i) (.int i t)=true:=Db i t
theorem KK (prog:Program)(w:World)(x:Str)(t:Tok):(X1 prog w).is (.inr x) (.str x t)=true:=CJ x t
inductive V where
 |non |bl (b:Bool) |int (i:Int) |str (x:Str) |byt (b:Array UInt8) |flt (b:UInt64) |ref (a:Addr) |ty (n:String)
 deriving DecidableEq
noncomputable def XW:V->Value->Prop
 | .non,u=>u=Value.none
 | .bl b,u=>u=Value.bool b
 | .int i,u=>∃ t,u=Value.int i t
 | .str x,u=>∃ t,u=Value.str x t
 | .byt b,u=>∃ t,u=Value.bytes b t
 | .flt b,u=>∃ t,u=Value.float b t
 | .ref a,u=>u=Value.ref a
 | .ty n,u=>u=Value.type n
noncomputable abbrev XR:List V->List Value->Prop:=Paired XW
theorem XR.length {xs:List V}{us:List Value}(r:XR xs us):xs.length=us.length:=Paired.length r
theorem XR.get:∀{xs:List V}{us:List Value}{i:Nat}{x:V},XR xs us->xs[i]?=some x->∃u,us[i]?=some u/\XW x u
 |_,_,_,_, .nil,e=>by simp at e
 |_,_,0,_, .cons r _,e=>by simp at e;subst e;exact⟨_,rfl,r⟩
 |_,_,i+1,x, .cons _ t,e=>by
  obtain⟨u,h1,h2⟩:=XR.get (i:=i) (x:=x) t (by simpa using e)
  exact⟨u,by simpa using h1,h2⟩
theorem XR.set {x:V}{u:Value}(r:XW x u):∀{xs:List V}{us:List Value} (i:Nat),XR xs us->XR (xs.set i x) (us.set i u)
 |_,_,_, .nil=>.nil
 |_,_,0, .cons _ t=>.cons r t
 |_,_,i+1, .cons q t=>.cons q (XR.set r i t)
theorem XR.append:∀{xs ys:List V}{us ws:List Value},XR xs us->XR ys ws->XR (xs++ys) (us++ws):=λp s=>by
 induction p with
 |nil=>exact s
 |cons r _ ih=>exact .cons r ih
theorem XR.take:∀{xs:List V}{us:List Value} (n:Nat),XR xs us->XR (xs.take n) (us.take n)
 |_,_,0,_=>.nil
 |_,_,_+1, .nil=>.nil
 |_,_,n+1, .cons r t=>.cons r (XR.take n t)
theorem XR.drop:∀{xs:List V}{us:List Value} (n:Nat),XR xs us->XR (xs.drop n) (us.drop n)
 |_,_,0,r=>r
 |_,_,_+1, .nil=>.nil
 |_,_,n+1, .cons _ t=>XR.drop n t
noncomputable def GR:Option V->Option Value->Prop
 |some v,some u=>XW v u
 |none,none=>True
 |_,_=>False
noncomputable def KV {κ:Type}:List (κ×V)->List (κ×Value)->Prop:=Paired λ(p:κ×V) (q:κ×Value)=>p.1=q.1/\XW p.2 q.2
noncomputable def kV:Key->V
 | .inl i=>.int i
 | .inr x=>.str x
inductive HO where
 /-- a list -/
 |lst (xs:List V)
 /-- a tuple (never changes) -/
 |tup (xs:List V)
 /-- a dict whose keys are ints and texts; one whose keys are tuples of ints and texts (the empty one is both) -/
 |dK (kvs:List (Key×V)) |dT (kvs:List (List Key×V))
 /-- a set of ints: its members, its size -/
 |set (S:Int->Bool) (n:Nat)
 /-- an instance of the class at C, its dict at dx, its attributes -/
 |ins (C dx:Addr) (fs:List (Str×V))
 /-- the dict of the instance at x -/
 |own (x:Addr)
 /-- the dict of an exception -/
 |xd (fs:List (Str×V))
 /-- a bound method, f of x -/
 |met (f x:Addr)
 /-- a range object lo, lo + 1, .. below hi -/
 |rng (lo hi:Int)
 /-- a thing that is known to the object (the script; a dict while a loop walks it): read, never written while it is so -/
 |frz (o:Obj) (u:HO)
 /-- a code object's table -/
 |tbl (ps:Array Value)
 /-- any other thing, by what is true of its one object (a def of one's own: SetO a S n:=HO.ext λh=>..) -/
 |ext (φ:Heap->Prop)
noncomputable abbrev Hp:=Addr->Option HO
noncomputable def upd (H:Hp)(a:Addr)(o:HO):Hp:=λb=>if b=a then some o else H b
theorem X2 {H:Hp}{a:Addr}{o:HO}:upd H a o a=some o:=by unfold upd;rw[if_pos rfl]
theorem Xp {H:Hp}{a b:Addr}{o:HO}(h:b≠a):upd H a o b=H b:=by unfold upd;rw[if_neg h]
theorem Mq {H:Hp}{a b:Addr}{o u:HO}(h:H a=some o)(h':H b=some u)(d:o≠u):a≠b:=by
 intro e;subst e;rw[h] at h';exact d (Option.some.inj h')
theorem Xr {H:Hp}{a b:Addr}{o:HO}(h:H a=some o)(h':H b=none):a≠b:=by
 intro e;subst e;rw[h] at h';cases h'
noncomputable def VN (h:Heap)(a:Addr)(items:Array Value):Prop:=∃ o,h.get? a=some o/\(o.cls= .type "tuple" /\o.dict=none)/\∃n,o.data= .seq items n
theorem VN.t {h:Heap}{a:Addr}{items:Array Value}(x:VN h a items):IsTup h a items:=let ⟨o,ho,c,r⟩:=x;⟨o,ho,c.1,r⟩
theorem VN.new (h:Heap)(items:Array Value):VN (h.push {cls:=.type "tuple",data:=.seq items}) h.objs.size items:=⟨_,Heap.get?_push_size _ rfl,⟨rfl,rfl⟩,_,rfl⟩
section
variable (P:Program)(w:World)
noncomputable def Ym (H:Hp)(h:Heap)(a:Addr):HO->Prop
 | .lst xs=>xs.length<=sizeLine/\∃(its:List Value) (n:Nat),XR xs its/\h.get? a=some {cls:=.type "list",data:=.seq its.toArray n}
 | .tup xs=>xs.length<=sizeLine/\∃its:List Value,XR xs its/\VN h a its.toArray
 | .dK kvs=>kvs.length<=sizeLine/\(a==sysModules)=false/\∃vs,KV kvs vs/\h.DictOf (X1 P w) a vs
 | .dT kvs=>kvs.length<=sizeLine/\(a==sysModules)=false/\∃xs:List (List Key×Addr×Value),
   Paired (λ(p:List Key×V) (q:List Key×Addr×Value)=>p.1=q.1/\H q.2.1=some (.tup (p.1.map kV))/\XW p.2 q.2.2) kvs xs/\
   ∃o es ep,h.get? a=some o/\o.ExactDict/\o.data= .dict es ep/\es.toList=xs.map (entryOfKey (tupleKind (X1 P w)))/\(xs.map (·.1)).Nodup
 | .set S n=>h.SetOf (intKind P w) a S n
 | .ins C dx fs=>H dx=some (.own a)/\fs.length<=1000/\dx≠a/\h.get? a=some (PySem.W.instObj C dx)/\
   ∃mA,h.Ns1 dx mA/\(∀f,GR (fs.lookup f) (mA f))/\PySem.Within mA (fs.map (·.1))
 | .own _=>∃ o,h.get? a=some o
 | .xd fs=>∃ mA,h.Ns1 a mA/\∀f,GR (fs.lookup f) (mA f)
 | .rng lo hi=>∃ t u v,h.get? a=some {cls:=.type "range",data:=.fields #[.int lo t, .int hi u, .int 1 v]}
 | .frz o u=>h.get? a=some o/\Ym H h a u
 | .tbl ps=>h.get? a=some {cls:=.none,data:=.fields ps}
 | .met f x=>h.get? a=some (PySem.W.methodObj (.ref f) (.ref x))
 | .ext φ=>φ h/\(∃o,h.get? a=some o)/\∀h1 h2:Heap,φ h1->(∀o,h1.get? a=some o->h2.get? a=some o)->φ h2
noncomputable def HOk (H:Hp)(h:Heap):Prop:=∀ a o,H a=some o->Ym P w H h a o
end
section
variable {P:Program}{w:World}{H H':Hp}{h h':Heap}{a:Addr}{o:HO}
theorem Ym.lt (x:Ym P w H h a o):a<h.objs.size:=by
 cases o with
 |lst xs=>obtain⟨_,_,_,_,e⟩:=x;exact Heap.lt_size e
 |tup xs=>obtain⟨_,_,_,p⟩:=x;exact p.t.lt
 |dK kvs=>obtain⟨_,_,_,_,o,_,_,e,_⟩:=x;exact Heap.lt_size e
 |dT kvs=>obtain⟨_,_,_,_,o,_,_,e,_⟩:=x;exact Heap.lt_size e
 |set S n=>obtain⟨o,_,_,_,e,_⟩:=x;exact Heap.lt_size e
 |ins C dx fs=>obtain⟨_,_,_,e,_⟩:=x;exact Heap.lt_size e
 |own y=>obtain⟨_,e⟩:=x;exact Heap.lt_size e
 |xd fs=>obtain⟨_,⟨_,_,_,e,_⟩,_⟩:=x;exact Heap.lt_size e
 |rng lo hi=>obtain⟨_,_,_,e⟩:=x;exact Heap.lt_size e
 |frz ob u=>obtain⟨e,_⟩:=x;exact Heap.lt_size e
 |tbl ps=>exact Heap.lt_size (show h.get? a=some _ from x)
 |met f y=>exact Heap.lt_size (show h.get? a=some _ from x)
 |ext φ=>obtain⟨_,⟨_,e⟩,_⟩:=x;exact Heap.lt_size e
theorem Paired.mapP {α β:Type}{F G:α->β->Prop}:∀{l₁:List α}{l₂:List β},Paired F l₁ l₂->(∀a b,F a b->G a b)->Paired G l₁ l₂:=λp f=>by
 induction p with
 |nil=>exact .nil
 |cons r _ ih=>exact .cons (f _ _ r) ih
theorem Ym.stay (x:Ym P w H h a o)(k:∀b u,(b=a∨H b=some (.own a))->h.get? b=some u->h'.get? b=some u)
  (ho:∀b,H b=some (.own a)->H' b=some (.own a))(ht:∀b xs,H b=some (.tup xs)->H' b=some (.tup xs)):Ym P w H' h' a o:=by
 induction o with
 |lst xs=>obtain⟨z,its,n,r,e⟩:=x;exact⟨z,its,n,r,k _ _ (.inl rfl) e⟩
 |tup xs=>obtain⟨z,its,r,ob,e,c⟩:=x;exact⟨z,its,r,ob,k _ _ (.inl rfl) e,c⟩
 |dK kvs=>obtain⟨z,y,vs,r,ob,es,ep,e,c⟩:=x;exact⟨z,y,vs,r,ob,es,ep,k _ _ (.inl rfl) e,c⟩
 |dT kvs=>
  obtain⟨z,y,xs,r,ob,es,ep,e,c⟩:=x
  exact⟨z,y,xs,Paired.mapP r λp q z=>⟨z.1,ht _ _ z.2.1,z.2.2⟩,ob,es,ep,k _ _ (.inl rfl) e,c⟩
 |set S n=>obtain⟨ob,es,ep,t,e,c⟩:=x;exact⟨ob,es,ep,t,k _ _ (.inl rfl) e,c⟩
 |ins C dx fs=>
  obtain⟨d,z,ne,e,mA,⟨od,es,ep,e2,c⟩,r⟩:=x
  exact⟨ho _ d,z,ne,k _ _ (.inl rfl) e,mA,⟨od,es,ep,k _ _ (.inr d) e2,c⟩,r⟩
 |own y=>obtain⟨ob,e⟩:=x;exact⟨ob,k _ _ (.inl rfl) e⟩
 |xd fs=>obtain⟨mA,⟨od,es,ep,e,c⟩,r⟩:=x;exact⟨mA,⟨od,es,ep,k _ _ (.inl rfl) e,c⟩,r⟩
 |rng lo hi=>obtain⟨t,u,v,e⟩:=x;exact⟨t,u,v,k _ _ (.inl rfl) e⟩
 |frz ob u ih=>obtain⟨e,q⟩:=x;exact⟨k _ _ (.inl rfl) e,ih q⟩
 |tbl ps=>
  have e:h.get? a=some {cls:=.none,data:=.fields ps}:=x
  show h'.get? a=some {cls:=.none,data:=.fields ps}
  exact k a _ (.inl rfl) e
 |met f y=>
  have e:h.get? a=some (PySem.W.methodObj (.ref f) (.ref y)):=x
  show h'.get? a=some (PySem.W.methodObj (.ref f) (.ref y))
  exact k a _ (.inl rfl) e
 |ext φ=>obtain⟨p,⟨o,e⟩,st⟩:=x;exact⟨st _ _ p λo q=>k _ _ (.inl rfl) q,⟨o,k _ _ (.inl rfl) e⟩,st⟩
theorem HOk.lt (x:HOk P w H h)(e:H a=some o):a<h.objs.size:=(x a o e).lt
theorem HOk.fresh (x:HOk P w H h)(e:h.objs.size<=a):H a=none:=by
 cases q:H a with
 |none=>rfl
 |some u=>exact absurd (Nat.lt_of_lt_of_le (x.lt q) e) (Nat.lt_irrefl _)
theorem HOk.kept (x:HOk P w H h)(k:∀b u,h.get? b=some u->h'.get? b=some u):HOk P w H h':=λa o e=>
 (x a o e).stay (λb u _ q=>k b u q) (λ_ q=>q) λ_ _ q=>q
theorem HOk.laid (x:HOk P w H h)(k:∀b u,h.get? b=some u->h'.get? b=some u)(hp:h.objs.size<=a)(new:Ym P w (upd H a o) h' a o):HOk P w (upd H a o) h':=λb u e=>by
 have hn:=x.fresh hp
 by_cases hb:b=a
 ·subst hb;rw[X2] at e;cases e;exact new
 ·rw[Xp hb] at e
  exact(x b u e).stay (λc v _ q=>k c v q) (λc q=>by rw[Xp (Xr q hn)];exact q) λc xs q=>by rw[Xp (Xr q hn)];exact q
end
noncomputable def Rd (H:Hp)(a:Addr)(u:HO):Prop:=H a=some u∨∃o,H a=some (.frz o u)
theorem Rd.of {H:Hp}{a:Addr}{u:HO}(h:H a=some u):Rd H a u:=.inl h
theorem Rd.ok {P:Program}{w:World}{H:Hp}{h:Heap}{a:Addr}{u:HO}(r:Rd H a u)(x:HOk P w H h):Ym P w H h a u:=by
 rcases r with r | ⟨o,r⟩
 ·exact x a u r
 ·obtain⟨_,q⟩:=x a _ r
  exact q
noncomputable def Mut:Option HO->Prop
 |some (.lst _)=>True
 |some (.dK _)=>True
 |some (.dT _)=>True
 |some (.set _ _)=>True
 |some (.ins _ _ _)=>True
 |some (.ext _)=>True
 |_=>False
section
variable {P:Program}{w:World}{H:Hp}{h h':Heap}{x e:Addr}{o':HO}
theorem HOk.write (ok:HOk P w H h)(mu:Mut (H x))(he:e=x∨H e=some (.own x))(k:∀b u,b≠e->h.get? b=some u->h'.get? b=some u)(heo:∃u,h'.get? e=some u)
  (new:Ym P w (upd H x o') h' x o'):HOk P w (upd H x o') h':=λb u q=>by
 have nown:∀c y,H c=some (.own y)->c≠x:=λc y r z=>by subst z;rw[r] at mu;exact mu
 have ntup:∀c xs,H c=some (.tup xs)->c≠x:=λc xs r z=>by subst z;rw[r] at mu;exact mu
 by_cases hb:b=x
 ·subst hb;rw[X2] at q;cases q;exact new
 ·rw[Xp hb] at q
  by_cases hbe:b=e
  ·have q':H b=some (.own x):=by
    rcases he with z |z
    ·exact absurd (hbe.trans z) hb
    ·rw[hbe];exact z
   rw[q] at q';cases q'
   obtain⟨v,hv⟩:=heo
   exact⟨v,by rw[hbe];exact hv⟩
  ·refine(ok b u q).stay (λc v hc r=>k c v ?_ r) (λc r=>by rw[Xp (nown c b r)];exact r) λc xs r=>by rw[Xp (ntup c xs r)];exact r
   rcases hc with rfl |hc
   ·exact hbe
   ·rintro rfl
    rcases he with z |z
    ·exact nown c b hc z
    ·rw[hc] at z;cases z;exact hb rfl
end
structure Un (fs ex:List Addr)(H H':Hp)(h h':Heap):Prop where
 keep:∀b o,h.get? b=some o->H b=none->b∉fs->b∉ex->h'.get? b=some o
 slot:∀b o,h.get? b=some o->H b=none->b∈fs->b∉ex->∃sl,h'.get? b=some {o with slots:=sl}
 free:∀b o,h.get? b=some o->H b=none->b∉ex->H' b=none
 there:∀b o,h.get? b=some o->b∉ex->∃o',h'.get? b=some o'
 tups:∀b xs,H b=some (.tup xs)->H' b=some (.tup xs)
 frzs:∀b o u,H b=some (.frz o u)->H' b=some (.frz o u)
 tbls:∀b ps,H b=some (.tbl ps)->∃more,H' b=some (.tbl (ps++more))
section
variable {fs fs' ex ex':List Addr}{H H1 H2:Hp}{h h1 h2 h':Heap}{a x e:Addr}{o:HO}
theorem Un.any (u:Un fs ex H H1 h h1){b:Addr}{ob:Obj}(q:h.get? b=some ob)(n:H b=none)(hx:b∉ex):∃sl,h1.get? b=some {ob with slots:=sl}:=by
 by_cases hb:b∈fs
 ·exact u.slot b ob q n hb hx
 ·exact⟨ob.slots,u.keep b ob q n hb hx⟩
theorem Un.trans (a:Un fs ex H H1 h h1)(b:Un fs ex H1 H2 h1 h2):Un fs ex H H2 h h2 where
 keep:=λc ob q n hc hx=>b.keep c ob (a.keep c ob q n hc hx) (a.free c ob q n hx) hc hx
 slot:=λc ob q n hc hx=>by
  obtain⟨sl,e1⟩:=a.slot c ob q n hc hx
  obtain⟨sl',e2⟩:=b.slot c _ e1 (a.free c ob q n hx) hc hx
  exact⟨sl',e2⟩
 free:=λc ob q n hx=>by
  obtain⟨o',e1⟩:=a.there c ob q hx
  exact b.free c o' e1 (a.free c ob q n hx) hx
 there:=λc ob q hx=>by
  obtain⟨o',e1⟩:=a.there c ob q hx
  exact b.there c o' e1 hx
 tups:=λc xs q=>b.tups c xs (a.tups c xs q)
 frzs:=λc ob xs q=>b.frzs c ob xs (a.frzs c ob xs q)
 tbls:=λc ps q=>by
  obtain⟨m1,e1⟩:=a.tbls c ps q
  obtain⟨m2,e2⟩:=b.tbls c _ e1
  exact⟨m1++m2,by rw[e2,Array.append_assoc]⟩
theorem Un.kept (k:∀b u,h.get? b=some u->h'.get? b=some u):Un fs ex H H h h':=
 ⟨λb ob q _ _ _=>k b ob q,λb ob q _ _ _=>⟨ob.slots,k b ob q⟩,λ_ _ _ n _=>n,λb ob q _=>⟨ob,k b ob q⟩,λ_ _ q=>q,λ_ _ _ q=>q,λ_ ps q=>⟨#[],by rw[q];simp⟩⟩
theorem Un.refl:Un fs ex H H h h:=Un.kept λ_ _ q=>q
theorem Un.laid (k:∀b u,h.get? b=some u->h'.get? b=some u)(hp:h.objs.size<=a)(hn:H a=none):Un fs ex H (upd H a o) h h' where
 keep:=λb u q _ _ _=>k b u q
 slot:=λb u q _ _ _=>⟨u.slots,k b u q⟩
 free:=λb u q n _=>by rw[Xp (Nat.ne_of_lt (Nat.lt_of_lt_of_le (Heap.lt_size q) hp))];exact n
 there:=λb u q _=>⟨u,k b u q⟩
 tups:=λb xs q=>by rw[Xp (Xr q hn)];exact q
 frzs:=λb u xs q=>by rw[Xp (Xr q hn)];exact q
 tbls:=λb ps q=>⟨#[],by rw[Xp (Xr q hn),q];simp⟩
theorem Un.write (mu:Mut (H x))(he:e=x∨H e=some (.own x))(k:∀b u,b≠e->h.get? b=some u->h'.get? b=some u)(heo:∃u,h'.get? e=some u):Un fs ex H (upd H x o) h h':=by
 have hx:∀b,H b=none->b≠x:=λb n z=>by subst z;rw[n] at mu;exact mu
 have hb:∀b,H b=none->b≠e:=λb n z=>by
  subst z
  rcases he with r |r
  ·exact hx b n r
  ·rw[n] at r;cases r
 have hm:∀b u,H b=some u->¬Mut (some u)->b≠x:=λb u q nm z=>by subst z;rw[q] at mu;exact nm mu
 refine⟨λb u q n _ _=>k b u (hb b n) q,λb u q n _ _=>⟨u.slots,k b u (hb b n) q⟩,λb u q n _=>by rw[Xp (hx b n)];exact n,λb u q _=>?_,
  λb xs q=>by rw[Xp (hm b _ q λz=>z)];exact q,λb u xs q=>by rw[Xp (hm b _ q λz=>z)];exact q,λb ps q=>⟨#[],by rw[Xp (hm b _ q λz=>z),q];simp⟩⟩
 by_cases hbe:b=e
 ·subst hbe;exact heo
 ·exact⟨u,k b u hbe q⟩
theorem Un.mono (u:Un fs ex H H1 h h1)(hs:∀b∈fs,b∈fs')(hx:∀b∈ex,b∈ex'):Un fs' ex' H H1 h h1:=
 ⟨λb ob q n hb he=>u.keep b ob q n (λz=>hb (hs b z)) λz=>he (hx b z),λ_ _ q n _ he=>u.any q n λz=>he (hx _ z),λb ob q n he=>u.free b ob q n λz=>he (hx b z),λb ob q he=>u.there b ob q λz=>he (hx b z),u.tups,u.frzs,u.tbls⟩
end
noncomputable def trk (h:Heap)(H:Hp):List Addr:=(List.range h.objs.size).filter λa=>(H a).isSome
noncomputable def CM (h:Heap)(H:Hp):Heap:=PySem.W.hideAll h (trk h H)
theorem DE (h:Heap)(H:Hp):(CM h H).objs.size=h.objs.size:=PySem.W.hideAll_size _ _
theorem GH {h:Heap}{H:Hp}{b:Addr}{o:Obj}(e:h.get? b=some o)(n:H b=none):(CM h H).get? b=some o:=
 PySem.W.hideAll_get _ e λhm=>by
  have q:(H b).isSome=true:=(List.mem_filter.mp hm).2
  rw[n] at q;simp at q
theorem F7 {h:Heap}{H:Hp}{b:Addr}{o:Obj}(e:(CM h H).get? b=some o):h.get? b=some o/\H b=none:=by
 have e':h.get? b=some o:=PySem.W.of_hideAll (trk h H) e
 refine⟨e',?_⟩
 cases q:H b with
 |none=>rfl
 |some x=>
  have hm:b∈trk h H:=List.mem_filter.mpr ⟨List.mem_range.mpr (Heap.lt_size e'),by simp[q]⟩
  have z:(CM h H).get? b=none:=PySem.W.hideAll_none (trk h H) hm
  rw[z] at e;cases e
noncomputable def Hm (g h:Heap)(L:Addr):List (Addr×Obj):=(List.range h.objs.size).filterMap λa=>if a=L∨(g.get? a).isSome=true then none else(h.get? a).map λo=>(a,o)
noncomputable def Y7 (g h:Heap)(L d:Addr):List (Addr×Obj):=(Hm g h L).filter λp=>decide (p.1≠d)
structure Mod (K:PySem.W.Frag)(mg:Str->Option Value)(base:Heap):Prop where
 kin:K.In base
 glob:base.Ns mainGlobals mg
 blt:∃mb,base.Ns builtinsNs mb/\∀x:Str,x≠ "__name__" ->mb x=bootBuiltins x
 nolimit:base.NoLimit
structure Cx where
 prog:Program
 w:World
 K:PySem.W.Frag
 mg:Str->Option Value
 base:Heap
 A:Around
 N:List Str
 s₀:Shared
 H₀:Hp
 env:Env
 outer:List Env
 stack:List Env
 ex:List Addr
 fn:Str->Bool
 calm:Bool
 pn:List (Addr×Obj)
 xe:Value->Shared->Prop
noncomputable def frs (l:List Env):List Addr:=l.filterMap (·.frame)
noncomputable abbrev Cx.fs (X:Cx):List Addr:=frs X.outer
noncomputable def Vis (sc:Scope)(x:Str):Prop:=sc.names.lookup x=some .local∨sc.names.lookup x=some .cell∨sc.names.lookup x=some .free
noncomputable def Loc (sc:Scope)(x:Str):Prop:=sc.names.lookup x=some .local∨sc.names.lookup x=some .cell
noncomputable def MV (env:Env)(h:Heap)(m:Str->Option Value)(x:Str)(u:Value):Prop:=
 (env.kindOf x=some .local/\m x=some u)∨((env.kindOf x=some .cell∨env.kindOf x=some .free)/\∃c,env.cells.lookup x=some c/\h.IsCell c (some u))
structure Cx.Ok (X:Cx):Prop where
 mod:Mod X.K X.mg X.base
 kind:X.env.scope.kind= .function
 glob:X.env.globals=mainGlobals
 blt:X.env.builtins=builtinsNs
 above:X.s₀.heap.objs.size<=X.env.locals
 inj:∀x y c,X.env.cells.lookup x=some c->X.env.cells.lookup y=some c->x=y
 has:∀x,(X.env.kindOf x=some .cell∨X.env.kindOf x=some .free)->∃c,X.env.cells.lookup x=some c
 cab:∀x c,X.fn x=true->X.env.cells.lookup x=some c->X.s₀.heap.objs.size<=c
 hd:X.calm=true->X.A.handled=none
 frames:X.A.frames=some X.stack
 stk:X.stack=X.outer∨(X.stack=X.env::X.outer/\X.env.frame=some X.env.locals)
 exf:∀b∈X.ex,b≠X.env.locals/\∀x c,X.env.cells.lookup x=some c->c≠b
 bs:∀b o,X.base.get? b=some o->X.s₀.heap.get? b=some o/\X.H₀ b=none
 bsz:X.base.objs.size<=X.s₀.heap.objs.size
 noex:∀b o,X.base.get? b=some o->b∉X.ex
 exfs:∀b∈X.ex,b∉X.fs
 funs:X.s₀.heap.FunFrames X.base X.outer
 frf:∀b∈X.fs,X.H₀ b=none
structure Inv (X:Cx)(pins:List (Addr×Obj))(σ:List (Option V))(H:Hp)(s:Shared):Prop where
 ok:X.Ok
 os:s.os=X.s₀.os
 bare:AllBare s.gens
 base:Un X.fs X.ex X.H₀ H X.s₀.heap s.heap
 loc:∃m,s.heap.Ns X.env.locals m/\∀(i:Nat) (x:Str) (v:V),X.N[i]?=some x->σ[i]?=some (some v)->Vis X.env.scope x->∃u,XW v u/\MV X.env s.heap m x u
 cell:∀x c,X.env.cells.lookup x=some c->∃v,s.heap.IsCell c v
 free:H X.env.locals=none
 freeC:∀x c,X.env.cells.lookup x=some c->H c=none
 pin:∀p∈X.pn++pins,s.heap.get? p.1=some p.2/\H p.1=none/\p.1≠X.env.locals/\p.1∉X.fs/\∀v,p.2.data≠ .cell v
 hok:HOk X.prog X.w H s.heap
 len:σ.length=X.N.length
section
variable {X:Cx}{pins:List (Addr×Obj)}{σ:List (Option V)}{H H':Hp}{s:Shared}{h':Heap}
theorem Cx.Ok.nofr (ok:X.Ok){b:Addr}{o:Obj}(e:X.base.get? b=some o):b∉X.fs:=λhb=>by
 have:=(ok.funs.mem hb).1
 rw[e] at this;cases this
theorem Inv.bs (I:Inv X pins σ H s):∀b o,X.base.get? b=some o->s.heap.get? b=some o/\H b=none:=λb o e=>
 ⟨I.base.keep b o (I.ok.bs b o e).1 (I.ok.bs b o e).2 (I.ok.nofr e) (I.ok.noex b o e),I.base.free b o (I.ok.bs b o e).1 (I.ok.bs b o e).2 (I.ok.noex b o e)⟩
theorem Inv.bk (I:Inv X pins σ H s):∀b o,X.base.get? b=some o->s.heap.get? b=some o:=λb o e=>(I.bs b o e).1
theorem Inv.mod (I:Inv X pins σ H s):Mod X.K X.mg X.base:=I.ok.mod
theorem Inv.kIn (I:Inv X pins σ H s):X.K.In s.heap:=I.ok.mod.kin.keeps I.bk
theorem Inv.nolimit (I:Inv X pins σ H s):s.heap.NoLimit:=I.ok.mod.nolimit.keeps I.bk
theorem Inv.fr (I:Inv X pins σ H s):∃m,Fr X.base X.env.locals s.heap m:=
 let ⟨m,hn,_⟩:=I.loc
 ⟨m,hn,I.bk,Nat.le_trans I.ok.bsz I.ok.above⟩
theorem Inv.lt (I:Inv X pins σ H s):X.env.locals<s.heap.objs.size:=let ⟨_,hn,_⟩:=I.loc;hn.lt
theorem Inv.sz (I:Inv X pins σ H s):X.s₀.heap.objs.size<=s.heap.objs.size:=Nat.le_trans I.ok.above (Nat.le_of_lt I.lt)
theorem Inv.nofs (I:Inv X pins σ H s){a:Addr}(h:s.heap.objs.size<=a):a∉X.fs:=λhb=>by
 obtain⟨_,o,ho,_⟩:=I.ok.funs.mem hb
 exact absurd (Nat.lt_of_lt_of_le (Heap.lt_size ho) (Nat.le_trans I.sz h)) (Nat.lt_irrefl _)
theorem Inv.cne (I:Inv X pins σ H s):∀x c,X.env.cells.lookup x=some c->c≠X.env.locals:=λx c e z=>by
 obtain⟨v,o,ho,hd⟩:=I.cell x c e
 obtain⟨m,⟨o',es,ep,ho',hd',_⟩,_⟩:=I.loc
 rw[z,ho'] at ho;cases ho;rw[hd'] at hd;cases hd
theorem Inv.funs (I:Inv X pins σ H s):s.heap.FunFrames X.base X.outer:=by
 have all:∀(l:List Env),(∀b∈frs l,b∈X.fs)->X.s₀.heap.FunFrames X.base l->s.heap.FunFrames X.base l:=by
  intro l
  induction l with
  |nil=>intro _ _;trivial
  |cons env r ih=>
   intro hs hl
   obtain⟨hk,⟨L,o,hf,hn,ho,hd⟩,hr⟩:=hl
   have hL:L∈X.fs:=hs L (by unfold frs;rw[List.filterMap_cons,hf];exact List.mem_cons_self)
   obtain⟨sl,e⟩:=I.base.slot L o ho (I.ok.frf L hL) hL λz=>I.ok.exfs L z hL
   exact⟨hk,⟨L,_,hf,hn,e,hd⟩,ih (λb hb=>hs b (by unfold frs;rw[List.filterMap_cons,hf];exact List.mem_cons_of_mem _ hb)) hr⟩
 exact all X.outer (λ_ hb=>hb) I.ok.funs
theorem Inv.stack (I:Inv X pins σ H s):s.heap.FunFrames X.base X.stack:=by
 rcases I.ok.stk with e | ⟨e,hf⟩
 ·rw[e];exact I.funs
 ·rw[e]
  obtain⟨m,hn,_⟩:=I.loc
  refine .cons (by rw[I.ok.kind];decide) hf hn ?_ I.funs
  exact Heap.get?_none_of_le (Nat.le_trans I.ok.bsz I.ok.above)
theorem Inv.stkSub (I:Inv X pins σ H s):∀b∈frs X.stack,b∈X.env.locals::X.fs:=λb hb=>by
 rcases I.ok.stk with e | ⟨e,hf⟩
 ·rw[e] at hb;exact List.mem_cons_of_mem _ hb
 ·rw[e] at hb
  unfold frs at hb
  rw[List.filterMap_cons,hf] at hb
  exact hb
theorem Inv.stkFree (I:Inv X pins σ H s):∀b∈frs X.stack,H b=none:=λb hb=>by
 rcases List.mem_cons.mp (I.stkSub b hb) with e |hb
 ·rw[e];exact I.free
 ·obtain⟨_,o,ho,_⟩:=I.ok.funs.mem hb
  exact I.base.free b o ho (I.ok.frf b hb) λz=>I.ok.exfs b z hb
theorem Inv.step {g':Array GenState}{t':Nat}{d':Drawn}{ch:List Addr}(I:Inv X pins σ H s)
  (hch:∀b∈ch,(b∈X.ex∨X.s₀.heap.objs.size<=b)/\b≠X.env.locals/\(∀x c,X.env.cells.lookup x=some c->c≠b)/\∀p∈X.pn++pins,p.1≠b)
  (keep:∀b o,b≠X.env.locals->b∉X.fs->b∉ch->s.heap.get? b=some o->H b=none->h'.get? b=some o)
  (slot:∀b o,b≠X.env.locals->b∈X.fs->b∉ch->s.heap.get? b=some o->H b=none->∃sl,h'.get? b=some {o with slots:=sl})(free:∀b o,b∉ch->s.heap.get? b=some o->H b=none->H' b=none)
  (there:∀b o,b∉ch->s.heap.get? b=some o->∃o',h'.get? b=some o')
  (tups:∀b xs,H b=some (.tup xs)->H' b=some (.tup xs))(frzs:∀b o u,H b=some (.frz o u)->H' b=some (.frz o u))(tbls:∀b ps,H b=some (.tbl ps)->∃more,H' b=some (.tbl (ps++more)))
  (ns:∀m,s.heap.Ns X.env.locals m->h'.Ns X.env.locals m)(hok:HOk X.prog X.w H' h')(hg:AllBare g'):
  Inv X pins σ H' {s with heap:=h',gens:=g',drawn:=d',toks:=t'}:=by
 have neL:∀b o,X.s₀.heap.get? b=some o->b≠X.env.locals:=λb o e=>Nat.ne_of_lt (Nat.lt_of_lt_of_le (Heap.lt_size e) I.ok.above)
 have neC:∀b o,X.s₀.heap.get? b=some o->b∉X.ex->b∉ch:=λb o e hx hb=>by
  rcases(hch b hb).1 with z |z
  ·exact hx z
  ·exact absurd (Nat.lt_of_lt_of_le (Heap.lt_size e) z) (Nat.lt_irrefl _)
 have cellK:∀x c,X.env.cells.lookup x=some c->∀v,s.heap.IsCell c v->h'.IsCell c v:=λx c e v ⟨o,ho,hd⟩=>by
  have nch:c∉ch:=λz=>(hch c z).2.2.1 x c e rfl
  by_cases hc:c∈X.fs
  ·obtain⟨sl,q⟩:=slot c o (I.cne x c e) hc nch ho (I.freeC x c e)
   exact⟨_,q,hd⟩
  ·exact⟨o,keep c o (I.cne x c e) hc nch ho (I.freeC x c e),hd⟩
 refine⟨I.ok,I.os,hg,⟨λb o e n hb hx=>?_,λb o e n hb hx=>?_,λb o e n hx=>?_,λb o e hx=>?_,λb xs e=>tups b xs (I.base.tups b xs e),λb o xs e=>frzs b o xs (I.base.frzs b o xs e),λb ps e=>?_⟩,?_,λx c e=>?_,?_,λx c e=>?_,λp hp=>?_,hok,I.len⟩
 ·exact keep b o (neL b o e) hb (neC b o e hx) (I.base.keep b o e n hb hx) (I.base.free b o e n hx)
 ·obtain⟨sl,e1⟩:=I.base.slot b o e n hb hx
  obtain⟨sl',e2⟩:=slot b _ (neL b o e) hb (neC b o e hx) e1 (I.base.free b o e n hx)
  exact⟨sl',e2⟩
 ·obtain⟨o',e1⟩:=I.base.there b o e hx
  exact free b o' (neC b o e hx) e1 (I.base.free b o e n hx)
 ·obtain⟨o',e1⟩:=I.base.there b o e hx
  exact there b o' (neC b o e hx) e1
 ·obtain⟨m1,e1⟩:=I.base.tbls b ps e
  obtain⟨m2,e2⟩:=tbls b _ e1
  exact⟨m1++m2,by rw[e2,Array.append_assoc]⟩
 ·obtain⟨m,hn,hl⟩:=I.loc
  refine⟨m,ns m hn,λi x v e1 e2 e3=>?_⟩
  obtain⟨u,r,l⟩:=hl i x v e1 e2 e3
  refine⟨u,r,?_⟩
  rcases l with l | ⟨k,c,e,z⟩
  ·exact .inl l
  ·exact .inr ⟨k,c,e,cellK x c e _ z⟩
 ·obtain⟨v,z⟩:=I.cell x c e
  exact⟨v,cellK x c e v z⟩
 ·obtain⟨m,⟨o,_,_,ho,_⟩,_⟩:=I.loc
  exact free _ o (λz=>(hch _ z).2.1 rfl) ho I.free
 ·obtain⟨v,o,ho,hd⟩:=I.cell x c e
  exact free c o (λz=>(hch c z).2.2.1 x c e rfl) ho (I.freeC x c e)
 ·obtain⟨e,n,ne,nf,d⟩:=I.pin p hp
  have nch:p.1∉ch:=λz=>(hch p.1 z).2.2.2 p hp rfl
  exact⟨keep p.1 p.2 ne nf nch e n,free p.1 p.2 nch e n,ne,nf,d⟩
theorem Inv.un {t':Nat}(I:Inv X pins σ H s)(u:Un X.fs [] H H' s.heap h')(hok:HOk X.prog X.w H' h'):Inv X pins σ H' {s with heap:=h',toks:=t'}:=by
 obtain⟨m,⟨o,es,ep,ho,r⟩,_⟩:=id I.loc
 obtain⟨sl,hL⟩:=u.any ho I.free (by simp)
 exact I.step (g':=s.gens) (d':=s.drawn) (ch:=[]) (λ_ z=>nomatch z) (λb o _ hb _ e n=>u.keep b o e n hb (by simp)) (λb o _ hb _ e n=>u.slot b o e n hb (by simp)) (λb o _ e n=>u.free b o e n (by simp)) (λb o _ e=>u.there b o e (by simp)) u.tups u.frzs u.tbls (λm' hm=>by
  obtain⟨o',es',ep',ho',r'⟩:=hm
  rw[ho] at ho';cases ho'
  exact⟨_,es',ep',hL,r'⟩) hok I.bare
theorem Inv.call {g':Array GenState}{t':Nat}{d':Drawn}{ch:List Addr}(I:Inv X pins σ H s)(u:Un (frs X.stack) ch H H' s.heap h')(hok:HOk X.prog X.w H' h')(hg:AllBare g')
  (hch:∀b∈ch,(b∈X.ex∨X.s₀.heap.objs.size<=b)/\b≠X.env.locals/\(∀x c,X.env.cells.lookup x=some c->c≠b)/\∀p∈X.pn++pins,p.1≠b):
  Inv X pins σ H' {s with heap:=h',gens:=g',drawn:=d',toks:=t'}:=by
 obtain⟨m,⟨o,es,ep,ho,r⟩,_⟩:=id I.loc
 obtain⟨sl,hL⟩:=u.any ho I.free λz=>(hch _ z).2.1 rfl
 exact I.step (ch:=ch) hch (λb o hL hb hc e n=>u.keep b o e n (λz=>(List.mem_cons.mp (I.stkSub b z)).elim hL hb) hc) (λb o _ _ hc e n=>u.any e n hc) (λb o hc e n=>u.free b o e n hc) (λb o hc e=>u.there b o e hc) u.tups u.frzs u.tbls (λm' hm=>by
  obtain⟨o',es',ep',ho',r'⟩:=hm
  rw[ho] at ho';cases ho'
  exact⟨_,es',ep',hL,r'⟩) hok hg
theorem Inv.turned {t':Nat}{it:Addr}(I:Inv X pins σ H s)(k:∀b o,b≠it->s.heap.get? b=some o->h'.get? b=some o)(hn:H it=none)(hL:it≠X.env.locals)
  (h1:it∈X.ex∨X.s₀.heap.objs.size<=it)(h2:∀x c,X.env.cells.lookup x=some c->c≠it)(h3:∀p∈X.pn++pins,p.1≠it):Inv X pins σ H {s with heap:=h',toks:=t'}:=by
 have nit:∀b u,H b=some u->b≠it:=λb u e z=>by rw[z,hn] at e;cases e
 refine I.step (g':=s.gens) (d':=s.drawn) (ch:=[it]) (λb hb=>?_) (λb o _ _ hc e _=>k b o (λz=>hc (by simp[z])) e) (λb o _ _ hc e _=>⟨o.slots,k b o (λz=>hc (by simp[z])) e⟩) (λ_ _ _ _ n=>n)
  (λb o hc e=>⟨o,k b o (λz=>hc (by simp[z])) e⟩) (λ_ _ e=>e) (λ_ _ _ e=>e) (λb ps e=>⟨#[],by rw[e];simp⟩) (λm hm=>?_) (λb u e=>?_) I.bare
 ·have e:b=it:=by simpa using hb
  subst e
  exact⟨h1,hL,h2,h3⟩
 ·obtain⟨o,es,ep,ho,r⟩:=hm
  exact⟨o,es,ep,k _ o (Ne.symm hL) ho,r⟩
 ·refine(I.hok b u e).stay (λc v hc q=>k c v ?_ q) (λ_ q=>q) λ_ _ q=>q
  rcases hc with z |z
  ·rw[z];exact nit b u e
  ·exact nit c _ z
theorem Inv.tok (I:Inv X pins σ H s)(t:Nat):Inv X pins σ H {s with toks:=t}:=I.un (h':=s.heap) (t':=t) Un.refl I.hok
theorem Inv.kept {t':Nat}(I:Inv X pins σ H s)(k:∀b u,s.heap.get? b=some u->h'.get? b=some u):Inv X pins σ H {s with heap:=h',toks:=t'}:=I.un (Un.kept k) (I.hok.kept k)
theorem Inv.laid {a:Addr}{o:HO}{t':Nat}(I:Inv X pins σ H s)(k:∀b u,s.heap.get? b=some u->h'.get? b=some u)(hp:s.heap.objs.size<=a)(new:Ym X.prog X.w (upd H a o) h' a o):
  Inv X pins σ (upd H a o) {s with heap:=h',toks:=t'}:=I.un (Un.laid k hp (I.hok.fresh hp)) (I.hok.laid k hp new)
theorem Inv.write {x e:Addr}{o:HO}{t':Nat}(I:Inv X pins σ H s)(mu:Mut (H x))(he:e=x∨H e=some (.own x))(k:∀b u,b≠e->s.heap.get? b=some u->h'.get? b=some u)(heo:∃u,h'.get? e=some u)
  (new:Ym X.prog X.w (upd H x o) h' x o):Inv X pins σ (upd H x o) {s with heap:=h',toks:=t'}:=I.un (Un.write mu he k heo) (I.hok.write mu he k heo new)
theorem Inv.weak {σ':List (Option V)}(I:Inv X pins σ H s)(hl:σ'.length=σ.length)(w:∀(i:Nat) v,σ'[i]?=some (some v)->σ[i]?=some (some v)):Inv X pins σ' H s:=
 ⟨I.ok,I.os,I.bare,I.base,let ⟨m,hn,hl'⟩:=I.loc;⟨m,hn,λi x v e1 e2 e3=>hl' i x v e1 (w i v e2) e3⟩,I.cell,I.free,I.freeC,I.pin,I.hok,hl.trans I.len⟩
theorem Inv.pins_of {pins':List (Addr×Obj)}(I:Inv X pins σ H s)(h:∀p∈pins',s.heap.get? p.1=some p.2/\H p.1=none/\p.1≠X.env.locals/\p.1∉X.fs/\∀v,p.2.data≠ .cell v):Inv X pins' σ H s:=
 ⟨I.ok,I.os,I.bare,I.base,I.loc,I.cell,I.free,I.freeC,λp hp=>(List.mem_append.mp hp).elim (λz=>I.pin p (List.mem_append_left _ z)) (h p),I.hok,I.len⟩
theorem GK {N:List Str}(hN:N.Nodup){i j:Nat}{x:Str}(a:N[i]?=some x)(b:N[j]?=some x):i=j:=by
 obtain⟨h1,e1⟩:=List.getElem?_eq_some_iff.mp a
 obtain⟨h2,e2⟩:=List.getElem?_eq_some_iff.mp b
 exact(List.getElem_inj hN).mp (e1.trans e2.symm)
theorem UI {M:Model}{A:Around}{E:Value->Shared->Prop}{i:Nat}{x:Str}{v:V}{u:Value}{Q:Unit->Shared->Prop}(I:Inv X pins σ H s)(hN:X.N.Nodup)(hi:X.N[i]?=some x)(hx:Loc X.env.scope x)(r:XW v u)
  (h:∀s',Inv X pins (σ.set i (some v)) H s'->(∃a,Heap.SameBut a s.heap s'.heap/\(a=X.env.locals∨X.env.cells.lookup x=some a))->Q () s')(hf:X.fn x=true∨X.env.scope.names.lookup x=some .local:=by first |exact .inl rfl |exact .inr rfl |assumption):wpAny M A (storeName X.env x u) Q E s:=by
 obtain⟨m,hn,hl⟩:=id I.loc
 have hcls:(X.env.scope.kind== .class || (X.env.scope.kind== .module&&X.env.locals !=X.env.globals))=false:=by rw[I.ok.kind];rfl
 have hiσ:i<σ.length:=by rw[I.len];exact(List.getElem?_eq_some_iff.mp hi).1
 have cne:=I.cne
 have tracked:∀{a:Addr}{h':Heap},(∃o,s.heap.get? a=some o/\H a=none)->Heap.SameBut a s.heap h'->HOk X.prog X.w H h':=fun {a h'} ha hs b ob e=>by
  obtain⟨_,_,hfree⟩:=ha
  refine(I.hok b ob e).stay (λc w' hc q=>(hs.2 c ?_).trans q) (λ_ q=>q) λ_ _ q=>q
  rintro rfl
  rcases hc with rfl |hc
  ·rw[hfree] at e;cases e
  ·rw[hfree] at hc;cases hc
 rcases hx with hk |hk
 ·refine wpAny_storeName_local hk hn (λh' hn' hs=>?_) hcls
  obtain⟨oL,_,_,hoL,_⟩:=id hn
  refine h _ ⟨I.ok,I.os,I.bare,⟨λb o e n hb hx=>?_,λb o e n hb hx=>?_,I.base.free,λb o e hx=>?_,I.base.tups,I.base.frzs,I.base.tbls⟩,⟨_,hn',λj y v' e1 e2 e3=>?_⟩,λy c e=>?_,I.free,I.freeC,λp hp=>?_,tracked ⟨oL,hoL,I.free⟩ hs,by simpa using I.len⟩ ⟨_,hs, .inl rfl⟩
  ·exact(hs.2 b (Nat.ne_of_lt (Nat.lt_of_lt_of_le (Heap.lt_size e) I.ok.above))).trans (I.base.keep b o e n hb hx)
  ·obtain⟨sl,e1⟩:=I.base.slot b o e n hb hx
   exact⟨sl,(hs.2 b (Nat.ne_of_lt (Nat.lt_of_lt_of_le (Heap.lt_size e) I.ok.above))).trans e1⟩
  ·obtain⟨o',e1⟩:=I.base.there b o e hx
   exact⟨o',(hs.2 b (Nat.ne_of_lt (Nat.lt_of_lt_of_le (Heap.lt_size e) I.ok.above))).trans e1⟩
  ·by_cases hj:j=i
   ·subst hj
    rw[hi] at e1;cases e1
    rw[List.getElem?_set_self hiσ] at e2
    cases e2
    exact⟨u,r, .inl ⟨hk,by simp⟩⟩
   ·rw[List.getElem?_set_ne (Ne.symm hj)] at e2
    obtain⟨u',r',q⟩:=hl j y v' e1 e2 e3
    refine⟨u',r',?_⟩
    rcases q with⟨k,e⟩ | ⟨k,c,e,z⟩
    ·refine .inl ⟨k,?_⟩
     have:y≠x:=λe=>hj (GK hN e1 (e▸hi))
     simp[this,e]
    ·exact .inr ⟨k,c,e,z.sameBut hs (cne y c e)⟩
  ·obtain⟨w',z⟩:=I.cell y c e
   exact⟨w',z.sameBut hs (cne y c e)⟩
  ·obtain⟨e,n,ne,nf,d⟩:=I.pin p hp
   exact⟨(hs.2 p.1 ne).trans e,n,ne,nf,d⟩
 ·have hfn:X.fn x=true:=by
   rcases hf with z |z
   ·exact z
   ·rw[z] at hk;cases hk
  obtain⟨c,hc⟩:=I.ok.has x (.inl hk)
  obtain⟨w',z⟩:=I.cell x c hc
  refine wpAny_storeName_cell I.ok.kind hk hc z (λh' hc' hs=>?_)
  obtain⟨oc,hoc,hocd⟩:=id z
  refine h {s with heap:=h'} ⟨I.ok,I.os,I.bare,⟨λb o e n hb hx=>?_,λb o e n hb hx=>?_,I.base.free,λb o e hx=>?_,I.base.tups,I.base.frzs,I.base.tbls⟩,⟨m,hn.sameBut hs (Ne.symm (cne x c hc)),λj y v' e1 e2 e3=>?_⟩,λy c' e=>?_,I.free,I.freeC,λp hp=>?_,tracked ⟨oc,hoc,I.freeC x c hc⟩ hs,by simpa using I.len⟩ ⟨c,hs, .inr hc⟩
  ·exact(hs.2 b (Nat.ne_of_lt (Nat.lt_of_lt_of_le (Heap.lt_size e) (I.ok.cab x c hfn hc)))).trans (I.base.keep b o e n hb hx)
  ·obtain⟨sl,e1⟩:=I.base.slot b o e n hb hx
   exact⟨sl,(hs.2 b (Nat.ne_of_lt (Nat.lt_of_lt_of_le (Heap.lt_size e) (I.ok.cab x c hfn hc)))).trans e1⟩
  ·obtain⟨o',e1⟩:=I.base.there b o e hx
   exact⟨o',(hs.2 b (Nat.ne_of_lt (Nat.lt_of_lt_of_le (Heap.lt_size e) (I.ok.cab x c hfn hc)))).trans e1⟩
  ·by_cases hj:j=i
   ·subst hj
    rw[hi] at e1;cases e1
    rw[List.getElem?_set_self hiσ] at e2
    cases e2
    exact⟨u,r, .inr ⟨.inl hk,c,hc,hc'⟩⟩
   ·rw[List.getElem?_set_ne (Ne.symm hj)] at e2
    obtain⟨u',r',q⟩:=hl j y v' e1 e2 e3
    refine⟨u',r',?_⟩
    rcases q with q | ⟨k,c',e,z'⟩
    ·exact .inl q
    ·refine .inr ⟨k,c',e,z'.sameBut hs ?_⟩
     rintro rfl
     exact hj (GK hN e1 (I.ok.inj _ _ _ e hc▸hi))
  ·by_cases hcc:c'=c
   ·subst hcc;exact⟨_,hc'⟩
   ·obtain⟨w2,z2⟩:=I.cell y c' e
    exact⟨w2,z2.sameBut hs hcc⟩
  ·obtain⟨e,n,ne,nf,d⟩:=I.pin p hp
   refine⟨(hs.2 p.1 ?_).trans e,n,ne,nf,d⟩
   intro q
   rw[q,hoc] at e
   have q':oc=p.2:=Option.some.inj e
   exact d w' (by rw[←q'];exact hocd)
theorem Ug {M:Model}{A:Around}{E:Value->Shared->Prop}{i:Nat}{x:Str}{v:V}{u:Value}{Q:Unit->Shared->Prop}(I:Inv X pins σ H s)(hN:X.N.Nodup)(hi:X.N[i]?=some x)(hx:Loc X.env.scope x)(r:XW v u)
  (h:∀s',Inv X pins (σ.set i (some v)) H s'->Q () s')(hf:X.fn x=true∨X.env.scope.names.lookup x=some .local:=by first |exact .inl rfl |exact .inr rfl |assumption):wpAny M A (storeName X.env x u) Q E s:=
 UI I hN hi hx r (λs' I' _=>h s' I') hf
theorem Inv.call' {s':Shared}{ch:List Addr}(I:Inv X pins σ H s)(ho:s'.os=s.os)(u:Un (frs X.stack) ch H H' s.heap s'.heap)(hok:HOk X.prog X.w H' s'.heap)(hg:AllBare s'.gens)
  (hch:∀b∈ch,(b∈X.ex∨X.s₀.heap.objs.size<=b)/\b≠X.env.locals/\(∀x c,X.env.cells.lookup x=some c->c≠b)/\∀p∈X.pn++pins,p.1≠b):Inv X pins σ H' s':=by
 obtain⟨h',g',d',t',o'⟩:=s'
 have e:o'=s.os:=ho
 subst e
 exact I.call (g':=g') (t':=t') (d':=d') u hok hg hch
end
noncomputable abbrev XK:=Value->Option Addr->Hp->Prop
noncomputable abbrev St:=List (Option V)
noncomputable abbrev VK:=V->Hp->Prop
noncomputable abbrev TE:=St->Hp->VK->Prop
noncomputable abbrev TT:=St->Hp->(Bool->Hp->Prop)->Prop
noncomputable abbrev TA:=St->Hp->(List V->Hp->Prop)->Prop
structure Ends where
 nx:St->Hp->Prop
 rt:VK
 bk:St->Hp->Prop:=λ_ _=>False
 ct:St->Hp->Prop:=λ_ _=>False
noncomputable abbrev TS:=Ends->St->Hp->Prop
noncomputable def EP (X:Cx)(pins:List (Addr×Obj))(σ:St)(Q:VK)(u:Value)(s':Shared):Prop:=∃ v H',Inv X pins σ H' s'/\XW v u/\Q v H'
noncomputable def TP (X:Cx)(pins:List (Addr×Obj))(σ:St)(Q:Bool->Hp->Prop)(b:Bool)(s':Shared):Prop:=∃ H',Inv X pins σ H' s'/\Q b H'
noncomputable def AP (X:Cx)(pins:List (Addr×Obj))(σ:St)(Q:List V->Hp->Prop)(us:List Value)(s':Shared):Prop:=∃ vs H',Inv X pins σ H' s'/\XR vs us/\Q vs H'
noncomputable def SP (X:Cx)(pins:List (Addr×Obj))(D:Ends)(f:Flow)(s':Shared):Prop:=
 match f with
 | .next=>∃ σ' H',Inv X pins σ' H' s'/\D.nx σ' H'
 | .brk=>∃ σ' H',Inv X pins σ' H' s'/\D.bk σ' H'
 | .cont=>∃ σ' H',Inv X pins σ' H' s'/\D.ct σ' H'
 | .ret u=>∃ v σ' H',Inv X pins σ' H' s'/\XW v u/\D.rt v H'
noncomputable def PE (X:Cx)(e:Expr)(t:TE):Prop:=
 ∀(pins:List (Addr×Obj)) (s:Shared) (σ:St) (H:Hp) (Q:VK),Inv X pins σ H s->t σ H Q->wpAny (model X.prog X.w) X.A (eval e X.env) (EP X pins σ Q) X.xe s
noncomputable def PT (X:Cx)(e:Expr)(t:TT):Prop:=
 ∀(pins:List (Addr×Obj)) (s:Shared) (σ:St) (H:Hp) (Q:Bool->Hp->Prop),Inv X pins σ H s->t σ H Q->wpAny (model X.prog X.w) X.A (isTrue e X.env (eval e X.env)) (TP X pins σ Q) X.xe s
noncomputable def PW (X:Cx)(e:Expr)(t:TT):Prop:=
 ∀(whole:Sem Value) (pins:List (Addr×Obj)) (s:Shared) (σ:St) (H:Hp) (Q:Bool->Hp->Prop),Inv X pins σ H s->t σ H Q->wpAny (model X.prog X.w) X.A (isTrue e X.env whole) (TP X pins σ Q) X.xe s
theorem PW.pt {X:Cx}{e:Expr}{t:TT}(h:PW X e t):PT X e t:=h _
noncomputable def PA (X:Cx)(es:List Expr)(t:TA):Prop:=
 ∀(pos:Pos) (pins:List (Addr×Obj)) (s:Shared) (σ:St) (H:Hp) (Q:List V->Hp->Prop),Inv X pins σ H s->t σ H Q->wpAny (model X.prog X.w) X.A (spliced (backTo pos (starEach es X.env))) (AP X pins σ Q) X.xe s
noncomputable def PS (X:Cx)(st:Stmt)(t:TS):Prop:=
 ∀(pins:List (Addr×Obj)) (s:Shared) (σ:St) (H:Hp) (D:Ends),Inv X pins σ H s->t D σ H->wpAny (model X.prog X.w) X.A (exec st X.env) (SP X pins D) X.xe s
noncomputable def PSs (X:Cx)(st:List Stmt)(t:TS):Prop:=
 ∀(pins:List (Addr×Obj)) (s:Shared) (σ:St) (H:Hp) (D:Ends),Inv X pins σ H s->t D σ H->wpAny (model X.prog X.w) X.A (execs st X.env) (SP X pins D) X.xe s
theorem thn {α:Type}{t:Sem α}{Q Q':α->Shared->Prop}{M:Model}{A:Around}{E:Value->Shared->Prop}{s:Shared}(h:wpAny M A t Q E s)(hQ:∀a s,Q a s->Q' a s):wpAny M A t Q' E s:=wpAny_mono h hQ λ_ _ x=>x
section
variable {X:Cx}
noncomputable def Ux (i:Nat):TE:=λσ H Q=>∃ v,σ[i]?=some (some v)/\Q v H
noncomputable def tC (v:V):TE:=λ_ H Q=>Q v H
theorem IZ {i:Nat}{x:Str}{pos:Pos}(hN:X.N[i]?=some x)(hv:Vis X.env.scope x)(hd:(x==("__debug__":Str))=false:=by decide)(hcd:(x==("__classdict__":Str))=false:=by decide):PE X (.Name x pos) (Ux i):=by
 intro pins s σ H Q I h
 obtain⟨v,e,h⟩:=h
 obtain⟨m,hn,hl⟩:=I.loc
 obtain⟨u,r,l⟩:=hl i x v hN e hv
 have fin:EP X pins σ Q u s:=⟨v,H,I,r,h⟩
 rcases l with⟨hk,hm⟩ | ⟨hk,c,hc,hcell⟩
 ·exact wpAny_Name (wpAny_loadName_local I.ok.kind hk hn hm fin) hd
 ·rcases hk with hk |hk
  ·exact wpAny_Name (wpAny_loadName_cell I.ok.kind hk hc hcell fin) hd
  ·exact wpAny_Name (wpAny_loadName_free I.ok.kind hk hc hcell fin hcd) hd
theorem Xh {i j pos}:PE X (.Constant (.int i) j pos) (tC (.int i)):=λ_ _ _ H _ I h=>wpAny_Constant_int ⟨.int i,H,I.tok _,⟨_,rfl⟩,h⟩
theorem ZP {b j pos}:PE X (.Constant (.bool b) j pos) (tC (.bl b)):=λ_ _ _ H _ I h=>Constant_bool ⟨.bl b,H,I,rfl,h⟩
theorem Vl {j pos}:PE X (.Constant .none j pos) (tC .non):=λ_ _ _ H _ I h=>Constant_none ⟨.non,H,I,rfl,h⟩
theorem XO {x j pos}:PE X (.Constant (.str x) j pos) (tC (.str x)):=λ_ _ _ H _ I h=>Calls.Constant_str ⟨.str x,H,I.tok _,⟨_,rfl⟩,h⟩
noncomputable def Gl (X:Cx)(x:Str):Prop:=X.env.kindOf x=some .globalImplicit
theorem VZ {E:Value->Shared->Prop}{pins:List (Addr×Obj)}{s:Shared}{σ:St}{H:Hp}{x:Str}{u:Value}{pos:Pos}{Q:Value->Shared->Prop}(I:Inv X pins σ H s)(hg:Gl X x)(hm:X.mg x=some u)(h:Q u s)
  (hd:(x==("__debug__":Str))=false:=by decide):wpAny (model X.prog X.w) X.A (eval (.Name x pos) X.env) Q E s:=
 Calls.Name_function_global I.ok.kind hg (Calls.loadGlobal_global (by rw[I.ok.glob];exact I.mod.glob.keeps I.bk) hm h) hd
theorem Vq {E:Value->Shared->Prop}{pins:List (Addr×Obj)}{s:Shared}{σ:St}{H:Hp}{x:Str}{u:Value}{pos:Pos}{Q:Value->Shared->Prop}(I:Inv X pins σ H s)(hg:Gl X x)(hm:X.mg x=none)(hv:bootBuiltins x=some u)(h:Q u s)
  (hn:x≠ "__name__":=by decide)(hd:(x==("__debug__":Str))=false:=by decide):wpAny (model X.prog X.w) X.A (eval (.Name x pos) X.env) Q E s:=by
 obtain⟨mb,h1,h2⟩:=I.mod.blt
 exact Calls.Name_function_global I.ok.kind hg (Calls.loadGlobal_builtin (by rw[I.ok.glob];exact I.mod.glob.keeps I.bk) hm (by rw[I.ok.blt];exact h1.keeps I.bk) ((h2 x hn).trans hv) h) hd
theorem Ud {x:Str}{v:V}{u:Value}{pos:Pos}(hg:Gl X x)(hm:X.mg x=some u)(r:XW v u)(hd:(x==("__debug__":Str))=false:=by decide):PE X (.Name x pos) (tC v):=
 λ_ _ _ H _ I h=>VZ I hg hm ⟨v,H,I,r,h⟩ hd
theorem ZV {x:Str}{v:V}{u:Value}{pos:Pos}(hg:Gl X x)(hm:X.mg x=none)(hv:bootBuiltins x=some u)(r:XW v u)(hn:x≠ "__name__":=by decide)(hd:(x==("__debug__":Str))=false:=by decide):PE X (.Name x pos) (tC v):=
 λ_ _ _ H _ I h=>Vq I hg hm hv ⟨v,H,I,r,h⟩ hn hd
variable {a b:Expr}{ta tb:TE}{pos:Pos}
noncomputable def PC (X:Cx)(op:CmpOp)(a b:Expr)(t:TE):Prop:=
 ∀(pins:List (Addr×Obj)) (s:Shared) (σ:St) (H:Hp) (Q:VK),Inv X pins σ H s->t σ H Q->
  wpAny (model X.prog X.w) X.A (eval a X.env) (λv s₁=>wpAny (model X.prog X.w) X.A (eval b X.env) (λu s₂=>wpAny (model X.prog X.w) X.A (compareOp op v u) (EP X pins σ Q) X.xe s₂) X.xe s₁) X.xe s
theorem Gh (b:Expr){op:CmpOp}(h:op≠ .In)(h2:op≠ .NotIn):behindInMarks op b=false:=by
 have e1:(op==CmpOp.In)=false:=by cases op<;> first |rfl |exact absurd rfl h
 have e2:(op==CmpOp.NotIn)=false:=by cases op<;> first |rfl |exact absurd rfl h2
 cases b<;> simp[behindInMarks,e1,e2]
noncomputable def tB (t:TE):TT:=λσ H Q=>t σ H λx H1=>∃ c,x= .bl c/\Q c H1
theorem Ei {op:CmpOp}{t:TE}(h:PC X op a b t)(h1:behindInMarks op b=false:=by first |exact Gh _ (by decide) (by decide) |rfl):PE X (.Compare a [op] [b] pos) t:=λpins s σ H Q I hw=>wpAny_Compare1 (h pins s σ H Q I hw) h1
theorem EB {op:CmpOp}{t:TE}(h:PC X op a b t)(h1:behindInMarks op b=false:=by first |exact Gh _ (by decide) (by decide) |rfl):PT X (.Compare a [op] [b] pos) (tB t):=by
 intro pins s σ H Q I hw
 refine wpAny_isTrue_Compare1 (thn (h pins s σ H _ I hw) λv s1 h1=>thn h1 λu s2 h2=>thn h2 λc s3 r9=>?_) h1
 obtain⟨x,H1,I1,r1,q1⟩:=r9
 obtain⟨d,rfl,q⟩:=q1
 cases r1
 exact wpAny_truthy_bool ⟨H1,I1,q⟩
theorem YL {e:Expr}{t:TE}(h:PE X e t)(he:∀whole,isTrue e X.env whole=(do let v ←whole;standAt e.pos;holding [v] (truthy v)):=by intro _;rfl):PT X e (tB t):=by
 intro pins s σ H Q I hw
 refine isTrue_plain (thn (h pins s σ H _ I hw) λv s1 r9=>?_) (he _)
 obtain⟨x,H1,I1,r1,q1⟩:=r9
 obtain⟨d,rfl,q⟩:=q1
 cases r1
 exact wpAny_truthy_bool ⟨H1,I1,q⟩
variable {tA tB':TT}{Y7:List Expr}
noncomputable def tOr (t u:TT):TT:=λσ H Q=>t σ H λc H1=>if c=true then Q true H1 else u σ H1 Q
noncomputable def Mz (t:TT):TT:=λσ H Q=>t σ H λc H1=>Q (!c) H1
theorem Z8 (ha:PT X a tA):PW X (.BoolOp .Or [a] pos) tA:=by
 intro wh pins s σ H Q I h
 refine isTrue_or (thn (ha pins s σ H Q I h) λc s1 e=>?_)
 cases c with
 |false=>exact isTrue_or_nil e
 |true=>exact e
theorem Q7 (ha:PT X a tA)(hb:PW X (.BoolOp .Or (b::Y7) pos) tB'):PW X (.BoolOp .Or (a::b::Y7) pos) (tOr tA tB'):=by
 intro wh pins s σ H Q I h
 refine isTrue_or (thn (ha pins s σ H _ I h) λc s1 r9=>?_)
 obtain⟨H1,I1,q1⟩:=r9
 cases c with
 |true=>exact⟨H1,I1,q1⟩
 |false=>exact hb wh pins s1 σ H1 Q I1 q1
theorem Zd (ha:PT X a tA):PT X (.UnaryOp .Not a pos) (Mz tA):=by
 intro pins s σ H Q I h
 exact isTrue_not (ha pins s σ H (λc H1=>Q (!c) H1) I h)
noncomputable def Ir (ta tb:TE):TE:=λσ H Q=>ta σ H λx H1=>∃ c,x= .bl c/\if c=true then tb σ H1 Q else Q (.bl false) H1
noncomputable def MI (ta tb:TE):TE:=λσ H Q=>ta σ H λx H1=>∃ c,x= .bl c/\if c=true then Q (.bl true) H1 else tb σ H1 Q
noncomputable def Ll (ta:TE):TE:=λσ H Q=>ta σ H λx H1=>∃ c,x= .bl c/\Q (.bl (!c)) H1
theorem GA {op}{t:TE}(h:PE X a t):PE X (.BoolOp op [a] pos) t:=λpins s σ H Q I hw=>BoolOp_one (h pins s σ H Q I hw)
theorem B7 (ha:PE X a ta)(hb:PE X (.BoolOp .And (b::Y7) pos) tb):PE X (.BoolOp .And (a::b::Y7) pos) (Ir ta tb):=by
 intro pins s σ H Q I h
 refine BoolOp_and (thn (ha pins s σ H _ I h) λv s1 r9=>?_)
 obtain⟨x,H1,I1,r1,q1⟩:=r9
 obtain⟨c,rfl,q1⟩:=q1
 cases r1
 refine wpAny_truthy_bool ?_
 cases c with
 |true=>exact hb pins s1 σ H1 Q I1 q1
 |false=>exact⟨.bl false,H1,I1,rfl,q1⟩
theorem Lz (ha:PE X a ta)(hb:PE X (.BoolOp .Or (b::Y7) pos) tb):PE X (.BoolOp .Or (a::b::Y7) pos) (MI ta tb):=by
 intro pins s σ H Q I h
 refine BoolOp_or (thn (ha pins s σ H _ I h) λv s1 r9=>?_)
 obtain⟨x,H1,I1,r1,q1⟩:=r9
 obtain⟨c,rfl,q1⟩:=q1
 cases r1
 refine wpAny_truthy_bool ?_
 cases c with
 |false=>exact hb pins s1 σ H1 Q I1 q1
 |true=>exact⟨.bl true,H1,I1,rfl,q1⟩
theorem Ea (ha:PE X a ta):PE X (.UnaryOp .Not a pos) (Ll ta):=by
 intro pins s σ H Q I h
 refine UnaryOp_ (thn (ha pins s σ H _ I h) λv s1 r9=>?_)
 obtain⟨x,H1,I1,r1,q1⟩:=r9
 obtain⟨c,rfl,q1⟩:=q1
 cases r1
 exact not_of (wpAny_truthy_bool ⟨.bl (!c),H1,I1,rfl,q1⟩)
noncomputable def tIf (t:TT)(ta tb:TE):TE:=λσ H Q=>t σ H λc H1=>if c=true then ta σ H1 Q else tb σ H1 Q
theorem Jc {c:Expr}(hc:PT X c tA)(ha:PE X a ta)(hb:PE X b tb):PE X (.IfExp c a b pos) (tIf tA ta tb):=by
 intro pins s σ H Q I h
 refine wpAny_IfExp (thn (hc pins s σ H _ I h) λd s1 r9=>?_)
 obtain⟨H1,I1,q1⟩:=r9
 cases d with
 |true=>exact ha pins s1 σ H1 Q I1 q1
 |false=>exact hb pins s1 σ H1 Q I1 q1
end
noncomputable def SqL (K:PySem.W.Frag)(H:Hp)(a:Addr)(xs:List V):Prop:=
 Rd H a (.lst xs)∨
  ∃(o:Obj) (its:Array Value) (n:Nat),K.lookup a=some o/\o.cls= .type "list" /\o.dict=none/\o.data= .seq its n/\its.size<=sizeLine/\XR xs its.toList
noncomputable def SqT (K:PySem.W.Frag)(H:Hp)(a:Addr)(xs:List V):Prop:=
 Rd H a (.tup xs)∨
  ∃(o:Obj) (its:Array Value) (n:Nat),K.lookup a=some o/\o.cls= .type "tuple" /\o.data= .seq its n/\its.size<=sizeLine/\XR xs its.toList
noncomputable def MX:Value->Option V
 | .none=>some .non
 | .bool b=>some (.bl b)
 | .int i _=>some (.int i)
 | .str x _=>some (.str x)
 | .bytes b _=>some (.byt b)
 | .float b _=>some (.flt b)
 | .ref a=>some (.ref a)
 | .type n=>some (.ty n)
 |_=>none
theorem XW.abs {x:V}{u:Value}(r:XW x u):MX u=some x:=by
 cases x with
 |non=>cases r;rfl
 |bl _=>cases r;rfl
 |int _=>obtain⟨t,rfl⟩:=r;rfl
 |str _=>obtain⟨t,rfl⟩:=r;rfl
 |byt _=>obtain⟨t,rfl⟩:=r;rfl
 |flt _=>obtain⟨t,rfl⟩:=r;rfl
 |ref _=>cases r;rfl
 |ty _=>cases r;rfl
theorem XW.inj {x y:V}{u:Value}(r:XW x u)(q:XW y u):x=y:=Option.some.inj (r.abs.symm.trans q.abs)
theorem XR.inj:∀{xs ys:List V}{us:List Value},XR xs us->XR ys us->xs=ys:=fun {xs ys us} p=>by
 induction p generalizing ys with
 |nil=>intro q;cases q;rfl
 |cons r _ ih=>intro q;cases q with |cons r' t'=>rw[r.inj r',ih t']
section
variable {X:Cx}{pins:List (Addr×Obj)}{σ:St}{H:Hp}{s:Shared}{a:Addr}{xs ys:List V}
theorem SqL.of {K:PySem.W.Frag}(h:H a=some (.lst xs)):SqL K H a xs:=.inl (.inl h)
theorem SqT.of {K:PySem.W.Frag}(h:H a=some (.tup xs)):SqT K H a xs:=.inl (.inl h)
theorem Inv.list (I:Inv X pins σ H s)(h:SqL X.K H a xs):∃its:List Value,XR xs its/\PlainL s.heap a its.toArray/\xs.length<=sizeLine:=by
 rcases h with h | ⟨o,its,n,hk,hc,hd,hs,hz,r⟩
 ·obtain⟨z,its,n,r,e⟩:=h.ok I.hok
  exact⟨its,r,⟨_,n,e,rfl,rfl,rfl⟩,z⟩
 ·refine⟨its.toList,r,⟨o,n,I.kIn a o hk,hc,hd,by simpa using hs⟩,?_⟩
  have e:=r.length
  simp only[Array.length_toList] at e
  omega
theorem Inv.tuple (I:Inv X pins σ H s)(h:SqT X.K H a xs):∃its:List Value,XR xs its/\IsTup s.heap a its.toArray/\xs.length<=sizeLine:=by
 rcases h with h | ⟨o,its,n,hk,hc,hs,hz,r⟩
 ·obtain⟨z,its,r,p⟩:=h.ok I.hok
  exact⟨its,r,p.t,z⟩
 ·refine⟨its.toList,r,⟨o,I.kIn a o hk,hc,n,by simpa using hs⟩,?_⟩
  have e:=r.length
  simp only[Array.length_toList] at e
  omega
theorem Inv.list_inj (I:Inv X pins σ H s)(h:SqL X.K H a xs)(h':SqL X.K H a ys):xs=ys:=by
 obtain⟨its,r,⟨o,n,e,_,_,d⟩,_⟩:=I.list h
 obtain⟨its',r',⟨o',n',e',_,_,d'⟩,_⟩:=I.list h'
 rw[e] at e';cases e'
 rw[d] at d'
 injection d' with d1 _
 have:its=its':=by simpa using congrArg Array.toList d1
 subst this
 exact r.inj r'
theorem Inv.tuple_inj (I:Inv X pins σ H s)(h:SqT X.K H a xs)(h':SqT X.K H a ys):xs=ys:=by
 obtain⟨its,r,⟨o,e,_,n,d⟩,_⟩:=I.tuple h
 obtain⟨its',r',⟨o',e',_,n',d'⟩,_⟩:=I.tuple h'
 rw[e] at e';cases e'
 rw[d] at d'
 injection d' with d1 _
 have:its=its':=by simpa using congrArg Array.toList d1
 subst this
 exact r.inj r'
end
noncomputable abbrev Cx.wish (X:Cx)(E:Value->Shared->Prop):Cx:={X with xe:=E}
noncomputable abbrev Cx.nox (X:Cx):Cx:=X.wish λ_ _=>False
theorem Cx.Ok.wish {X:Cx}(ok:X.Ok)(E:Value->Shared->Prop):(X.wish E).Ok:=
 ⟨ok.mod,ok.kind,ok.glob,ok.blt,ok.above,ok.inj,ok.has,ok.cab,ok.hd,ok.frames,ok.stk,ok.exf,ok.bs,ok.bsz,ok.noex,ok.exfs,ok.funs,ok.frf⟩
theorem Cx.Ok.unwish {X:Cx}{E:Value->Shared->Prop}(ok:(X.wish E).Ok):X.Ok:=
 ⟨ok.mod,ok.kind,ok.glob,ok.blt,ok.above,ok.inj,ok.has,ok.cab,ok.hd,ok.frames,ok.stk,ok.exf,ok.bs,ok.bsz,ok.noex,ok.exfs,ok.funs,ok.frf⟩
section
variable {X:Cx}{pins:List (Addr×Obj)}{σ:St}{H:Hp}{s:Shared}{E:Value->Shared->Prop}
theorem Inv.wish (I:Inv X pins σ H s)(E:Value->Shared->Prop):Inv (X.wish E) pins σ H s:=⟨I.ok.wish E,I.os,I.bare,I.base,I.loc,I.cell,I.free,I.freeC,I.pin,I.hok,I.len⟩
theorem Inv.unwish (I:Inv (X.wish E) pins σ H s):Inv X pins σ H s:=⟨I.ok.unwish,I.os,I.bare,I.base,I.loc,I.cell,I.free,I.freeC,I.pin,I.hok,I.len⟩
theorem SP.unwish {D:Ends}{f:Flow}{s':Shared}(h:SP (X.wish E) pins D f s'):SP X pins D f s':=by
 cases f with
 |next=>obtain⟨σ',H',I,q⟩:=h;exact⟨σ',H',I.unwish,q⟩
 |brk=>obtain⟨σ',H',I,q⟩:=h;exact⟨σ',H',I.unwish,q⟩
 |cont=>obtain⟨σ',H',I,q⟩:=h;exact⟨σ',H',I.unwish,q⟩
 |ret u=>obtain⟨v,σ',H',I,r,q⟩:=h;exact⟨v,σ',H',I.unwish,r,q⟩
theorem PE.nox {e:Expr}{t:TE}(h:PE X.nox e t):PE X e t:=λpins s σ H Q I hw=>
 wpAny_mono (h pins s σ H Q (I.wish _) hw) (λ_ _ r9=>by obtain⟨v,H',I',r,q⟩:=r9;exact⟨v,H',I'.unwish,r,q⟩) λ_ _ z=>False.elim z
theorem PT.nox {e:Expr}{t:TT}(h:PT X.nox e t):PT X e t:=λpins s σ H Q I hw=>
 wpAny_mono (h pins s σ H Q (I.wish _) hw) (λ_ _ r9=>by obtain⟨H',I',q⟩:=r9;exact⟨H',I'.unwish,q⟩) λ_ _ z=>False.elim z
theorem PSs.nox {st:List Stmt}{t:TS}(h:PSs X.nox st t):PSs X st t:=λpins s σ H D I hw=>
 wpAny_mono (h pins s σ H D (I.wish _) hw) (λ_ _ q=>q.unwish) λ_ _ z=>False.elim z
end
section
variable {X:Cx}{st:Stmt}{Y7:List Stmt}{t u:TS}{e:Expr}{te:TE}{pos:Pos}
noncomputable def GZ:TS:=λD σ H=>D.nx σ H
noncomputable def Q9 (t u:TS):TS:=λD σ H=>t {D with nx:=u D} σ H
theorem Xe:PSs X [] GZ:=λ_ _ σ H _ I h=>wpAny_execs_nil ⟨σ,H,I,h⟩
theorem Xa (h1:PS X st t)(h2:PSs X Y7 u):PSs X (st::Y7) (Q9 t u):=by
 intro pins s σ H D I h
 refine wpAny_execs_cons (thn (h1 pins s σ H {D with nx:=u D} I h) λf s1 q=>?_)
 cases f with
 |next=>
  obtain⟨σ',H',I',q⟩:=q
  exact h2 pins s1 σ' H' D I' q
 |ret v=>exact q
 |brk=>exact q
 |cont=>exact q
theorem Inv.quiet {pins:List (Addr×Obj)}{σ:St}{H:Hp}{s:Shared}(I:Inv X pins σ H s):interactive X.env=false:=by simp[interactive,I.ok.kind]
noncomputable def Kw (te:TE):TS:=λD σ H=>te σ H λ_ H1=>D.nx σ H1
theorem X0 (he:PE X e te)(hs:swapsWith e none pos.line X.env=pure false:=by rfl):PS X (.Expr e pos) (Kw te):=by
 intro pins s σ H D I h
 exact wpAny_Expr_any (thn (he pins s σ H _ I h) λv s1 r9=>by obtain⟨x,H1,I1,r1,q1⟩:=r9;exact⟨σ,H1,I1,q1⟩) I.quiet hs
noncomputable def MJ (te:TE):TS:=λD σ H=>te σ H D.rt
theorem XD (he:PE X e te):PS X (.Return (some e) pos) (MJ te):=by
 intro pins s σ H D I h
 exact wpAny_Return_some (thn (he pins s σ H _ I h) λv s1 r9=>by obtain⟨x,H1,I1,r1,q1⟩:=r9;exact⟨x,σ,H1,I1,r1,q1⟩)
noncomputable def LW (c:TT)(t u:TS):TS:=λD σ H=>c σ H λb H1=>if b=true then t D σ H1 else u D σ H1
theorem Yi {c:Expr}{a b:List Stmt}{tc:TT}(hc:PT X c tc)(ha:PSs X a t)(hb:PSs X b u):PS X (.If c a b pos) (LW tc t u):=by
 intro pins s σ H D I h
 refine wpAny_If (thn (hc pins s σ H _ I h) λd s1 r9=>?_)
 obtain⟨H1,I1,q1⟩:=r9
 cases d with
 |true=>exact ha pins s1 σ H1 D I1 q1
 |false=>exact hb pins s1 σ H1 D I1 q1
end
noncomputable abbrev TG:=V->St->Hp->(St->Hp->Prop)->Prop
noncomputable abbrev TGs:=List V->St->Hp->(St->Hp->Prop)->Prop
noncomputable def PG (X:Cx)(target:Expr)(t:TG):Prop:=
 ∀(pins:List (Addr×Obj)) (s:Shared) (σ:St) (H:Hp) (v:V) (u:Value) (Q:St->Hp->Prop),Inv X pins σ H s->XW v u->t v σ H Q->
  wpAny (model X.prog X.w) X.A (assign target X.env u) (λ_ s'=>∃ σ' H',Inv X pins σ' H' s'/\Q σ' H') X.xe s
noncomputable def PGs (X:Cx)(ts:List Expr)(t:TGs):Prop:=
 ∀(pins:List (Addr×Obj)) (s:Shared) (σ:St) (H:Hp) (vs:List V) (us:List Value) (Q:St->Hp->Prop),Inv X pins σ H s->XR vs us->t vs σ H Q->
  wpAny (model X.prog X.w) X.A (assignInOrder ((assignEach ts X.env).map (·.2)) us) (λ_ s'=>∃ σ' H',Inv X pins σ' H' s'/\Q σ' H') X.xe s
noncomputable abbrev Me:=V->V->V->Hp->(Hp->Prop)->Prop
noncomputable def MK (X:Cx)(t:Me):Prop:=
 ∀(pins:List (Addr×Obj)) (s:Shared) (σ:St) (H:Hp) (o i v:V) (ov iv u:Value) (Q:Hp->Prop),Inv X pins σ H s->XW o ov->XW i iv->XW v u->t o i v H Q->
  wpAny (model X.prog X.w) X.A (setItem ov iv u) (λ_ s'=>∃ H',Inv X pins σ H' s'/\Q H') X.xe s
section
variable {X:Cx}{pos:Pos}
noncomputable def Ql (i:Nat):TG:=λv σ H Q=>Q (σ.set i (some v)) H
theorem Xv {i:Nat}{x:Str}(hN:X.N.Nodup)(hi:X.N[i]?=some x)(hx:Loc X.env.scope x)(hf:X.fn x=true∨X.env.scope.names.lookup x=some .local:=by first |exact .inl rfl |exact .inr rfl |assumption):PG X (.Name x pos) (Ql i):=by
 intro pins s σ H v u Q I r h
 exact wpAny_assign_Name (Ug I hN hi hx r (λs' I'=>⟨_,H,I',h⟩) hf)
noncomputable def Mh:TGs:=λvs σ H Q=>vs=[]/\Q σ H
noncomputable def FY (t:TG)(u:TGs):TGs:=λvs σ H Q=>∃ v r,vs=v::r/\t v σ H λσ' H'=>u r σ' H' Q
theorem Qa:PGs X [] Mh:=by
 intro pins s σ H vs us Q I r h
 obtain⟨e,h⟩:=h
 subst e
 cases r
 exact assignInOrder_nil ⟨σ,H,I,h⟩
theorem Yj {e:Expr}{es:List Expr}{t:TG}{u:TGs}(h1:PG X e t)(h2:PGs X es u)
  (hs:(assignEach (e::es) X.env).map (·.2)=assign e X.env::(assignEach es X.env).map (·.2):=by rfl):PGs X (e::es) (FY t u):=by
 intro pins s σ H vs us Q I r h
 obtain⟨v,vr,e1,h⟩:=h
 subst e1
 cases r with
 |cons r rr=>
  rw[hs]
  refine assignInOrder_cons (thn (h1 pins s σ H _ _ _ I r h) λ_ s1 r9=>?_)
  obtain⟨σ1,H1,I1,q1⟩:=r9
  exact h2 pins s1 σ1 H1 _ _ Q I1 rr q1
noncomputable def LJ (K:PySem.W.Frag)(n:Nat)(t:TGs):TG:=λv σ H Q=>∃ a xs,v= .ref a/\SqT K H a xs/\xs.length=n/\t xs σ H Q
theorem Vj {es:List Expr}{k:Nat}{t:TGs}{n:Nat}(hc:X.calm=true)(h:PGs X es t)
  (hn:(assignEach es X.env).length=n:=by rfl)(hst:(assignEach es X.env).findIdx? (·.1)=none:=by rfl):PG X (.Tuple es k pos) (LJ X.K n t):=by
 intro pins s σ H v u Q I r hw
 obtain⟨a,xs,e1,hq,hl,hw⟩:=hw
 subst e1
 cases r
 obtain⟨its,rv,ht,hz⟩:=I.tuple hq
 refine assign_Tuple_tuple (I.ok.hd hc) ht (by simp[hn, ←hl,rv.length]) hst λh' hx=>?_
 have I1:Inv X pins σ H {s with heap:=h'}:=I.kept (t':=s.toks) λb o e=>hx b o (Nat.ne_of_lt (Heap.lt_size e)) e
 exact h pins _ σ H xs _ Q I1 (by simpa using rv) hw
noncomputable def MB (to ti:TE)(t:Me):TG:=λv σ H Q=>to σ H λo H1=>ti σ H1 λi H2=>t o i v H2 λH3=>Q σ H3
theorem Ij {o i:Expr}{to ti:TE}{t:Me}(ho:PE X o to)(hi:PE X i ti)(hs:MK X t)
  (ha:∀v,assign (.Subscript o i pos) X.env v=(do
   let ov ←holding [v] (eval o X.env)
   let iv ←holding [v,ov] (eval i X.env)
   standAt pos
   holding [v,ov,iv] (setItem ov iv v)
   release [v,ov,iv] []):=by intro _;rfl):PG X (.Subscript o i pos) (MB to ti t):=by
 intro pins s σ H v u Q I r h
 rw[ha]
 refine wpAny_bind (wpAny_holding (thn (ho pins s σ H _ I h) λov s1 r9=>?_))
 obtain⟨x,H1,I1,r1,q1⟩:=r9
 refine wpAny_bind (wpAny_holding (thn (hi pins s1 σ H1 _ I1 q1) λiv s2 r9=>?_))
 obtain⟨y,H2,I2,r2,q2⟩:=r9
 refine wpAny_bind (wpAny_standAt (wpAny_bind (wpAny_holding (thn (hs pins s2 σ H2 x y v ov iv u _ I2 r1 r2 r q2) λ_ s3 r9=>?_))))
 obtain⟨H3,I3,q3⟩:=r9
 exact wpAny_release ⟨σ,H3,I3,q3⟩
noncomputable def Ed (te:TE)(g:TG):TS:=λD σ H=>te σ H λx H1=>g x σ H1 D.nx
theorem IR {tg e:Expr}{te:TE}{g:TG}(he:PE X e te)(hg:PG X tg g)(hs:swapsWithSole [tg] e pos.line X.env=pure false:=by rfl)(hw:swappedStores [tg] e X.env=pure none:=by rfl)
  (h1:(assignEach [tg] X.env).map (·.2)=[assign tg X.env]:=by rfl):PS X (.Assign [tg] e pos) (Ed te g):=by
 intro pins s σ H D I h
 refine wpAny_Assign_stores (thn (he pins s σ H _ I h) λv s1 r9=>?_) hs hw
 obtain⟨x,H1,I1,r1,q1⟩:=r9
 rw[h1]
 exact thn (hg pins s1 σ H1 x v _ I1 r1 q1) λ_ s2 q=>q
theorem Xm {i:Nat}{x:Str}{e:Expr}{te:TE}{pos':Pos}(hN:X.N.Nodup)(hi:X.N[i]?=some x)(hx:Loc X.env.scope x)(he:PE X e te)(hs:swapsWith e (some (.Name x pos')) pos.line X.env=pure false:=by rfl)(hf:X.fn x=true∨X.env.scope.names.lookup x=some .local:=by first |exact .inl rfl |exact .inr rfl |assumption):
  PS X (.Assign [.Name x pos'] e pos) (Ed te (Ql i)):=by
 intro pins s σ H D I h
 refine wpAny_Assign_Name (thn (he pins s σ H _ I h) λv s1 r9=>?_) hs
 obtain⟨y,H1,I1,r1,q1⟩:=r9
 exact Ug I1 hN hi hx r1 (λs2 I2=>⟨_,H1,I2,q1⟩) hf
end
section
variable {X:Cx}{pos:Pos}
noncomputable def B4 (c:TT)(tb:TS):TS:=λD σ H=>∃ W:Nat->St->Hp->Prop,(∃m,W m σ H)/\∀m σ H,W m σ H->
 c σ H λb H1=>if b=true then ∃N:St->Hp->Prop,(∀σ' H',N σ' H'->∃m',m'<m/\W m' σ' H')/\tb {D with nx:=N,ct:=N,bk:=D.nx} σ H1 else D.nx σ H1
theorem Bw {c:Expr}{body:List Stmt}{tc:TT}{tb:TS}(hp:PassesOwn (model X.prog X.w) X.A X.env X.xe)(hc:PT X c tc)(hb:PSs X body tb):PS X (.While c body [] pos) (B4 tc tb):=by
 intro pins s σ H D I h
 obtain⟨W,⟨m0,w0⟩,turn⟩:=h
 refine wpAny_While (codeAny_whileLoop (λn s'=>∃ σ' H',Inv X pins σ' H' s'/\W n σ' H') ?_ m0 ⟨σ,H,I,w0⟩)
 rintro n s1 ⟨σ1,H1,I1,w1⟩
 refine wpAny_passesOwn hp (thn (hc pins s1 σ1 H1 _ I1 (turn n σ1 H1 w1)) λb s2 r9=>?_)
 obtain⟨H2,I2,q2⟩:=r9
 cases b with
 |true=>
  obtain⟨N,hN,q2⟩:=q2
  rw[if_pos rfl]
  refine wpAny_passesOwn hp (thn (hb pins s2 σ1 H2 _ I2 q2) λf s3 q3=>?_)
  cases f with
  |next=>
   obtain⟨σ3,H3,I3,n3⟩:=q3
   obtain⟨m',hm,w3⟩:=hN σ3 H3 n3
   exact⟨m',hm,σ3,H3,I3,w3⟩
  |cont=>
   obtain⟨σ3,H3,I3,n3⟩:=q3
   obtain⟨m',hm,w3⟩:=hN σ3 H3 n3
   exact⟨m',hm,σ3,H3,I3,w3⟩
  |brk=>exact q3
  |ret v=>exact q3
 |false=>
  rw[if_neg Bool.false_ne_true]
  exact wpAny_execs_nil ⟨σ1,H2,I2,q2⟩
end
structure It where
 go:Nat->Hp->Prop
 yld:Nat->Hp->V->Hp->Prop
 stop:Nat->Hp->Prop
noncomputable def K9 (X:Cx)(pins:List (Addr×Obj))(H:Hp)(b:Addr):Prop:=
 H b=none/\b≠X.env.locals/\b∉X.fs/\(b∈X.ex∨X.s₀.heap.objs.size<=b)/\(∀x c,X.env.cells.lookup x=some c->c≠b)/\∀p∈X.pn++pins,p.1≠b
theorem Inv.fpOk {X:Cx}{pins:List (Addr×Obj)}{σ:St}{H H':Hp}{s:Shared}{b:Addr}(I:Inv X pins σ H s)(hb:s.heap.objs.size<=b)(hn:H' b=none):K9 X pins H' b:=by
 refine⟨hn,Nat.ne_of_gt (Nat.lt_of_lt_of_le I.lt hb),I.nofs hb, .inr (Nat.le_trans I.sz hb),λx c e z=>?_,λp hp z=>?_⟩
 ·obtain⟨v,q⟩:=I.cell x c e
  exact absurd (Nat.lt_of_lt_of_le q.lt (by rw[z];exact hb)) (Nat.lt_irrefl _)
 ·exact absurd (Nat.lt_of_lt_of_le (Heap.lt_size (I.pin p hp).1) (by rw[z];exact hb)) (Nat.lt_irrefl _)
structure Turn (P:Program)(w:World)(K:PySem.W.Frag)(tg:Expr)(J:It)(fp:List Addr)(it:Addr)(tn:Nat->Heap->Prop):Prop where
 mem:it∈fp
 obj:∀i h,tn i h->∀b∈fp,∃o,h.get? b=some o/\∀v,o.data≠ .cell v
 keep:∀i h h',tn i h->(∀b∈fp,∀o,h.get? b=some o->h'.get? b=some o)->tn i h'
 item:∀(X:Cx),X.prog=P->X.w=w->X.K=K->X.calm=true->∀(i:Nat) (pins:List (Addr×Obj)) (s:Shared) (σ:St) (H:Hp) (E:Value->Shared->Prop),Inv X pins σ H s->(∀b∈fp,K9 X pins H b)->tn i s.heap->J.go i H->
  wpAny (model P w) X.A (pyNext (.ref it)) (λr s1=>∃ u,r=some u/\
   wpAny (model P w) X.A (letOwnedTupleGo tg (.ref it) u) (λ_ s2=>∃ x H',Inv X pins σ H' s2/\XW x u/\J.yld i H x H'/\tn (i+1) s2.heap/\∀b∈fp,H' b=none) E s1) E s
 done:∀(X:Cx),X.prog=P->X.w=w->X.K=K->X.calm=true->∀(i:Nat) (pins:List (Addr×Obj)) (s:Shared) (σ:St) (H:Hp) (E:Value->Shared->Prop),Inv X pins σ H s->(∀b∈fp,K9 X pins H b)->tn i s.heap->J.stop i H->
  wpAny (model P w) X.A (pyNext (.ref it)) (λr s1=>r=none/\Inv X pins σ H s1) E s
 self:∀(A:Around) (i:Nat) (s:Shared) (Q:Value->Shared->Prop) (E:Value->Shared->Prop),tn i s.heap->Q (.ref it) s->wpAny (model P w) A (pyIter (.ref it)) Q E s
noncomputable abbrev TI:=St->Hp->(It->Hp->Prop)->Prop
noncomputable def PIE (X:Cx)(pins:List (Addr×Obj))(σ:St)(tg:Expr)(R:It->Hp->Prop)(itv:Value)(s2:Shared):Prop:=
 ∃(it:Addr) (fp:List Addr) (tn:Nat->Heap->Prop) (J:It) (H':Hp),itv= .ref it/\Inv X pins σ H' s2/\Turn X.prog X.w X.K tg J fp it tn/\tn 0 s2.heap/\(∀b∈fp,K9 X pins H' b)/\R J H'
noncomputable def PI (X:Cx)(tg iter:Expr)(wi:TI):Prop:=
 ∀(pins:List (Addr×Obj)) (s:Shared) (σ:St) (H:Hp) (R:It->Hp->Prop),Inv X pins σ H s->wi σ H R->
  wpAny (model X.prog X.w) X.A (eval iter X.env) (λv s1=>wpAny (model X.prog X.w) X.A (pyIter v) (PIE X pins σ tg R) X.xe s1) X.xe s
theorem Lq {M:Model}{A:Around}{E:Value->Shared->Prop}{s:Shared}{tg:Expr}{it:Addr}{u:Value}{o:Obj}{n:String}{vs:Array Value}{Q:Unit->Shared->Prop}(ho:s.heap.get? it=some o)(hc:o.cls= .type n)(hd:o.data= .fields vs)
    (hn: ["enumerate","zip","dict_itemiterator","dict_reverseitemiterator","odict_iterator","itertools.zip_longest","itertools.pairwise"].contains n=false)(hQ:Q () s):wpAny M A (letOwnedTupleGo tg (.ref it) u) Q E s:=by
  unfold letOwnedTupleGo
  cases tg<;> first
    |exact wpAny_pure hQ
    | (cases u<;> first
        |exact wpAny_pure hQ
        | (refine wpAny_bind (wpAny_load ho ?_)
           rw[hc,hd]
           show wpAny M A (if(["enumerate","zip","dict_itemiterator","dict_reverseitemiterator","odict_iterator","itertools.zip_longest","itertools.pairwise"].contains n&&vs[0]?==some (rawInt _))=true then _ else _) Q E s
           rw[if_neg (by intro h;rw[hn,Bool.false_and] at h;cases h)]
           exact wpAny_pure hQ))
noncomputable def Itl (K:PySem.W.Frag)(a:Addr):It:=
 ⟨λi H=>∃ xs x,SqL K H a xs/\xs[i]?=some x,λi H x H'=>H'=H/\∀xs,SqL K H a xs->xs[i]?=some x,λi H=>∃ xs,SqL K H a xs/\xs.length<=i⟩
noncomputable def Itr (lo:Int)(n:Nat):It:=⟨λi _=>i<n,λi H x H'=>H'=H/\x= .int (lo+i),λi _=>n<=i⟩
theorem DO {P:Program}{w:World}{K:PySem.W.Frag}{tg:Expr}(a it:Addr):Turn P w K tg (Itl K a) [it] it (λi h=>h.IsListIter it a i) where
 mem:=by simp
 obj:=λi h st b hb=>by
  have e:b=it:=by simpa using hb
  subst e
  obtain⟨o,e,c,d⟩:=st
  exact⟨o,e,λv z=>by rw[d] at z;cases z⟩
 keep:=λi h h' st k=>st.at λo e=>k it (by simp) o e
 item:=by
  intro X hP hw hK hc i pins s σ H E I hf st hg
  subst hP hw hK
  obtain⟨xs,x,hq,hx⟩:=hg
  obtain⟨its,rv,p,hz⟩:=I.list hq
  obtain⟨u,hu,ru⟩:=rv.get hx
  obtain⟨f0,f1,f2,f3,f4,f5⟩:=hf it (by simp)
  refine wpAny_pyNext_list_item st p.isList (x:=u) (by simpa using hu) λh' st' sb=>?_
  have I1:Inv X pins σ H {s with heap:=h'}:=I.turned (t':=s.toks) (λb o hb e=>(sb.2 b hb).trans e) f0 f1 f3 f4 f5
  obtain⟨o,e,c,d⟩:=id st'
  exact⟨u,rfl,Lq (s:={s with heap:=h'}) e c d (by decide) ⟨x,H,I1,ru,⟨rfl,λys hy=>by rw[I.list_inj hy hq];exact hx⟩,st',λb hb=>(hf b hb).1⟩⟩
 done:=by
  intro X hP hw hK hc i pins s σ H E I hf st hg
  subst hP hw hK
  obtain⟨xs,hq,hx⟩:=hg
  obtain⟨its,rv,p,hz⟩:=I.list hq
  obtain⟨f0,f1,f2,f3,f4,f5⟩:=hf it (by simp)
  have hl:=rv.length
  exact wpAny_pyNext_list_end (I.ok.hd hc) st p.isList (by simp;omega) λh' eb=>⟨rfl,I.turned (t':=s.toks) (λb o hb e=>eb b o hb e) f0 f1 f3 f4 f5⟩
 self:=λ_ _ _ _ _ st h=>wpAny_pyIter_listiter st h
theorem Fi {P:Program}{w:World}{K:PySem.W.Frag}{tg:Expr}(it:Addr)(lo:Int)(n:Nat):Turn P w K tg (Itr lo n) [it] it (λi h=>IsRangeIter h it (lo+(i:Nat)*1) ((n:Int)-(i:Nat)) 1) where
 mem:=by simp
 obj:=λi h st b hb=>by
  have e:b=it:=by simpa using hb
  subst e
  exact⟨_,st,λv z=>by
   have z':Data.fields _=Data.cell v:=z
   cases z'⟩
 keep:=λi h h' st k=>k it (by simp) _ st
 item:=by
  intro X hP hw hK hc i pins s σ H E I hf st hg
  subst hP hw hK
  obtain⟨f0,f1,f2,f3,f4,f5⟩:=hf it (by simp)
  have W:=Walks.range (prog:=X.prog) (w:=X.w) (I.ok.hd hc) it lo 1 n
  refine W.item i s _ _ hg st λv h' tk hv st' kk=>?_
  obtain⟨t,rfl⟩:=hv
  have I1:Inv X pins σ H {s with heap:=h',toks:=tk}:=I.turned (λb o hb e=>kk b o (by simpa using hb) e) f0 f1 f3 f4 f5
  refine⟨_,rfl,Lq (s:={s with heap:=h',toks:=tk}) (n:="range_iterator") st' rfl rfl (by decide) ⟨.int (lo+i),H,I1,⟨t,?_⟩,⟨rfl,rfl⟩,st',λb hb=>(hf b hb).1⟩⟩
  rw[Int.mul_one]
 done:=by
  intro X hP hw hK hc i pins s σ H E I hf st hg
  subst hP hw hK
  obtain⟨f0,f1,f2,f3,f4,f5⟩:=hf it (by simp)
  exact wpAny_pyNext_range_end (I.ok.hd hc) st (by have:n<=i:=hg;omega) λh' eb=>⟨rfl,I.turned (t':=s.toks) (λb o hb e=>eb b o hb e) f0 f1 f3 f4 f5⟩
 self:=λ_ _ _ _ _ st h=>wpAny_pyIter_rangeiter st h
section
variable {X:Cx}{tg:Expr}
noncomputable def BS (K:PySem.W.Frag)(tl:TE):TI:=λσ H R=>tl σ H λx H1=>∃ a,x= .ref a/\(∃xs,SqL K H1 a xs)/\R (Itl K a) H1
theorem He {l:Expr}{tl:TE}(hl:PE X l tl):PI X tg l (BS X.K tl):=by
 intro pins s σ H R I h
 refine thn (hl pins s σ H _ I h) λv s1 r9=>?_
 obtain⟨x,H1,I1,r1,q1⟩:=r9
 obtain⟨a,e,⟨xs,hq⟩,q⟩:=q1
 subst e
 cases r1
 obtain⟨its,rv,p,hz⟩:=I1.list hq
 refine wpAny_pyIter_list p.isList ?_
 refine⟨s1.heap.objs.size,[s1.heap.objs.size],_,_,H1,rfl,I1.kept (t':=s1.toks) λb o e=>Heap.get?_push_of_some _ e,DO a _,⟨_,Heap.get?_push_size _ rfl,rfl,rfl⟩,λb hb=>?_,q⟩
 have e:b=s1.heap.objs.size:=by simpa using hb
 subst e
 exact I1.fpOk (Nat.le_refl _) (I1.hok.fresh (Nat.le_refl _))
theorem C5 {pins:List (Addr×Obj)}{σ:St}{H:Hp}{s:Shared}{R:It->Hp->Prop}{E:Value->Shared->Prop}{lo hi:Int}{t u v:Tok}{tk:Nat}(I:Inv X pins σ H s)(h1: -(2^62)<=lo)(h2:lo<2^62)(h3: -(2^62)<=hi)(h4:hi<2^62)
  (q:R (Itr lo (hi-lo).toNat) H):wpAny (model X.prog X.w) X.A (pyIter (.ref s.heap.objs.size)) (PIE X pins σ tg R) E {s with heap:=s.heap.push {cls:=.type "range",data:=.fields #[.int lo t, .int hi u, .int 1 v]},toks:=tk}:=by
 refine wpAny_pyIter_range (IsRange.new ..) (small_one h1 h2 h3 h4) ?_
 have I1:Inv X pins σ H {s with heap:=s.heap.push {cls:=.type "range",data:=.fields #[.int lo t, .int hi u, .int 1 v]},toks:=tk}:=I.kept λb o e=>Heap.get?_push_of_some _ e
 refine⟨(s.heap.push {cls:=.type "range",data:=.fields #[.int lo t, .int hi u, .int 1 v]}).objs.size,[(s.heap.push {cls:=.type "range",data:=.fields #[.int lo t, .int hi u, .int 1 v]}).objs.size],_,_,H,rfl,
  I1.kept (t':=tk) λb o e=>Heap.get?_push_of_some _ e,Fi _ lo (hi-lo).toNat,?_,λb hb=>?_,q⟩
 ·have e1:lo+((0:Nat):Int)*1=lo:=by simp
  have e2:(((hi-lo).toNat:Nat):Int)-((0:Nat):Int)=Builtin.Range.rangeSize lo hi 1:=by rw[rangeSize_one];split<;> omega
  show IsRangeIter _ _ (lo+((0:Nat):Int)*1) ((((hi-lo).toNat:Nat):Int)-((0:Nat):Int)) 1
  rw[e1,e2]
  exact Heap.get?_push_size _ rfl
 ·have e:b=(s.heap.push {cls:= .type "range",data:= .fields #[.int lo t, .int hi u, .int 1 v]}).objs.size:=by simpa using hb
  subst e
  exact I1.fpOk (Nat.le_refl _) (I1.hok.fresh (Nat.le_refl _))
noncomputable def IT (ta:TA):TI:=λσ H R=>ta σ H λvs H1=>∃ j:Int,vs=[.int j]/\ -(2^62)<=j/\j<2^62/\R (Itr 0 j.toNat) H1
theorem Zl {a:Expr}{ta:TA}{p pos:Pos}(hg:Gl X "range")(hm:X.mg "range" =none)(ha:PA X [a] ta)(hs:starEach [a] X.env=[(false,eval a X.env)]:=by rfl):PI X tg (.Call (.Name "range" p) [a] [] pos) (IT ta):=by
 intro pins s σ H R I h
 refine Call_ (Vq I hg hm boot_range (PyProof.Rows.callWith_type1 (thn (ha pos pins s σ H _ I h) λus s1 r9=>?_) hs rfl))
 obtain⟨vs,H1,I1,r1,q1⟩:=r9
 obtain⟨j,e,q1,q2,q⟩:=q1
 subst e
 cases r1 with
 |cons r rr=>
  cases rr
  obtain⟨t,rfl⟩:=r
  exact call_range_1 (C5 I1 (by omega) (by omega) q1 q2 (by simpa using q))
noncomputable def LA (wi:TI)(g:TG)(tb:TS):TS:=λD σ H=>wi σ H λJ H1=>∃ W:Nat->Nat->St->Hp->Prop,(∃m,W 0 m σ H1)/\∀i m σ H,W i m σ H->
 (J.stop i H/\D.nx σ H)∨(J.go i H/\∃N:St->Hp->Prop,(∀σ' H',N σ' H'->∃m',m'<m/\W (i+1) m' σ' H')/\∀x H',J.yld i H x H'->g x σ H' λσ2 H2=>tb {D with nx:=N,ct:=N,bk:=D.nx} σ2 H2)
noncomputable def UH (fp:List Addr)(h:Heap):List (Addr×Obj):=fp.filterMap λb=>(h.get? b).map λo=>(b,o)
theorem QI {fp:List Addr}{h:Heap}{b:Addr}{o:Obj}(hb:b∈fp)(e:h.get? b=some o):(b,o)∈UH fp h:=List.mem_filterMap.mpr ⟨b,hb,by rw[e];rfl⟩
theorem Ct {fp:List Addr}{h:Heap}{p:Addr×Obj}(hp:p∈UH fp h):p.1∈fp/\h.get? p.1=some p.2:=by
 obtain⟨b,hb,e⟩:=List.mem_filterMap.mp hp
 cases q:h.get? b with
 |none=>rw[q] at e;cases e
 |some o=>
  rw[q] at e
  have e':(b,o)=p:=Option.some.inj e
  subst e'
  exact⟨hb,q⟩
theorem Inv.pinned {pins:List (Addr×Obj)}{σ:St}{H:Hp}{s:Shared}{fp:List Addr}(I:Inv X pins σ H s)(hf:∀b∈fp,K9 X pins H b)(ho:∀b∈fp,∃o,s.heap.get? b=some o/\∀v,o.data≠ .cell v):Inv X (pins++UH fp s.heap) σ H s:=
 I.pins_of λp hp=>(List.mem_append.mp hp).elim (λz=>I.pin p (List.mem_append_right _ z)) λz=>by
  obtain⟨hb,e⟩:=Ct z
  obtain⟨f0,f1,f2,_⟩:=hf p.1 hb
  obtain⟨o,e',d⟩:=ho p.1 hb
  rw[e] at e';cases e'
  exact⟨e,f0,f1,f2,d⟩
theorem Inv.unpinned {pins pl:List (Addr×Obj)}{σ:St}{H:Hp}{s:Shared}(I:Inv X (pins++pl) σ H s):Inv X pins σ H s:=I.pins_of λp hp=>I.pin p (List.mem_append_right _ (List.mem_append_left _ hp))
theorem Ye {iter:Expr}{body:List Stmt}{wi:TI}{g:TG}{tb:TS}{pos:Pos}(hp:PassesOwn (model X.prog X.w) X.A X.env X.xe)(hc:X.calm=true)(hi:PI X tg iter wi)(hg:PG X tg g)(hb:PSs X body tb)
  (hs:∀x,foldedSetIterable iter X.env x=pure x:=by intro _;rfl):PS X (.For tg iter body [] pos) (LA wi g tb):=by
 intro pins s σ H D I h
 refine wpAny_For (thn (hi pins s σ H _ I h) λv s1 h1=>thn h1 λitv s2 h2=>?_) hs
 obtain⟨it,fp,tn,J,H2,e,I2,T,st2,f2,W,⟨m0,w0⟩,turn⟩:=h2
 subst e
 -- what stays true of the iterator's objects through the loop
 have stat:∀{H':Hp},(∀b∈fp,H' b=none)->∀b∈fp,K9 X pins H' b:=λhn b hb=>⟨hn b hb,(f2 b hb).2⟩
 refine codeAny_forLoop_any (λn s'=>∃ i σ' H',Inv X pins σ' H' s'/\tn i s'.heap/\(∀b∈fp,H' b=none)/\W i n σ' H') ?_ m0 ⟨0,σ,H2,I2,st2,λb hb=>(f2 b hb).1,w0⟩
 rintro n s3 ⟨i,σ3,H3,I3,st3,fr3,w3⟩
 rcases turn i n σ3 H3 w3 with⟨stop,qn⟩ | ⟨go,N,hN,step⟩
 ·refine wpAny_passesOwn hp (thn (T.done X rfl rfl rfl hc i pins s3 σ3 H3 X.xe I3 (stat fr3) st3 stop) λr s4 r9=>?_)
  obtain⟨hr,I4⟩:=r9
  subst hr
  exact wpAny_execs_nil ⟨σ3,H3,I4,qn⟩
 ·refine wpAny_passesOwn hp (thn (T.item X rfl rfl rfl hc i pins s3 σ3 H3 X.xe I3 (stat fr3) st3 go) λr s4 r9=>?_)
  obtain⟨u,hr,h4⟩:=r9
  subst hr
  refine wpAny_passesOwn hp (thn h4 λ_ s5 r9=>?_)
  obtain⟨x,H5,I5,r5,y5,st5,fr5⟩:=r9
  have I5':=I5.pinned (stat fr5) (T.obj _ _ st5)
  refine wpAny_passesOwn hp (thn (hg _ s5 σ3 H5 x u _ I5' r5 (step x H5 y5)) λ_ s6 r9=>?_)
  obtain⟨σ6,H6,I6,q6⟩:=r9
  refine wpAny_passesOwn hp (thn (hb _ s6 σ6 H6 _ I6 q6) λf s7 q7=>?_)
  have again:∀{σ7:St}{H7:Hp},Inv X (pins++UH fp s5.heap) σ7 H7 s7->N σ7 H7->∃m,m<n/\∃i σ' H',Inv X pins σ' H' s7/\tn i s7.heap/\(∀b∈fp,H' b=none)/\W i m σ' H':=fun {σ7 H7} I7 n7=>by
   obtain⟨m',hm,w7⟩:=hN σ7 H7 n7
   refine⟨m',hm,i+1,σ7,H7,I7.unpinned,T.keep _ _ _ st5 λb hb o e=>(I7.pin (b,o) (List.mem_append_right _ (List.mem_append_right _ (QI hb e)))).1,λb hb=>?_,w7⟩
   obtain⟨o,e,d⟩:=T.obj _ _ st5 b hb
   exact(I7.pin (b,o) (List.mem_append_right _ (List.mem_append_right _ (QI hb e)))).2.1
  cases f with
  |next=>obtain⟨σ7,H7,I7,n7⟩:=q7;exact again I7 n7
  |cont=>obtain⟨σ7,H7,I7,n7⟩:=q7;exact again I7 n7
  |brk=>obtain⟨σ7,H7,I7,q7⟩:=q7;exact⟨σ7,H7,I7.unpinned,q7⟩
  |ret v=>obtain⟨x7,σ7,H7,I7,r7,q7⟩:=q7;exact⟨x7,σ7,H7,I7.unpinned,r7,q7⟩
end
theorem BH {K:PySem.W.Frag}{a:Addr}{xs:List V}{g:TG}{tb:TS}{D:Ends}{σ:St}{H:Hp}(Pv:Nat->St->Hp->Prop)(h0:Pv 0 σ H)(hl:∀i σ H,i<=xs.length->Pv i σ H->SqL K H a xs)
  (hs:∀i x σ H,xs[i]?=some x->Pv i σ H->g x σ H λσ2 H2=>tb {D with nx:=Pv (i+1),ct:=Pv (i+1),bk:=D.nx} σ2 H2)(hd:∀σ H,Pv xs.length σ H->D.nx σ H):
  ∃W:Nat->Nat->St->Hp->Prop,(∃m,W 0 m σ H)/\∀i m σ H,W i m σ H->
   ((Itl K a).stop i H/\D.nx σ H)∨((Itl K a).go i H/\∃N:St->Hp->Prop,(∀σ' H',N σ' H'->∃m',m'<m/\W (i+1) m' σ' H')/\∀x H',(Itl K a).yld i H x H'->g x σ H' λσ2 H2=>tb {D with nx:=N,ct:=N,bk:=D.nx} σ2 H2):=by
 refine⟨λi m σ H=>m=xs.length-i/\i<=xs.length/\Pv i σ H,⟨xs.length,by simp,Nat.zero_le _,h0⟩,?_⟩
 rintro i m σ H ⟨rfl,hi,p⟩
 have q:=hl i σ H hi p
 by_cases hlt:i<xs.length
 ·refine .inr ⟨⟨xs,xs[i],q,by simp[hlt]⟩,Pv (i+1),λσ' H' p'=>⟨xs.length-(i+1),by omega,rfl,hlt,p'⟩,λx H' y=>?_⟩
  obtain⟨e,y⟩:=y
  subst e
  exact hs i x σ _ (y xs q) p
 ·have e:i=xs.length:=by omega
  subst e
  exact .inl ⟨⟨xs,q,Nat.le_refl _⟩,hd σ H p⟩
noncomputable abbrev R2:=V->V->Hp->VK->Prop
noncomputable def OpR (X:Cx)(f:Value->Value->Sem Value)(r:R2):Prop:=
 ∀(pins:List (Addr×Obj)) (s:Shared) (σ:St) (H:Hp) (x y:V) (v u:Value) (Q:VK),Inv X pins σ H s->XW x v->XW y u->r x y H Q->
  wpAny (model X.prog X.w) X.A (f v u) (EP X pins σ Q) X.xe s
noncomputable def UnR (X:Cx)(f:Value->Sem Value)(r:V->Hp->VK->Prop):Prop:=
 ∀(pins:List (Addr×Obj)) (s:Shared) (σ:St) (H:Hp) (x:V) (v:Value) (Q:VK),Inv X pins σ H s->XW x v->r x H Q->
  wpAny (model X.prog X.w) X.A (f v) (EP X pins σ Q) X.xe s
noncomputable def ZJ (X:Cx)(f:Value)(r:List V->Hp->VK->Prop):Prop:=
 ∀(pins:List (Addr×Obj)) (s:Shared) (σ:St) (H:Hp) (xs:List V) (us:List Value) (Q:VK),Inv X pins σ H s->XR xs us->r xs H Q->
  wpAny (model X.prog X.w) X.A (call f us) (EP X pins σ Q) X.xe s
noncomputable def tOp (r:R2)(ta tb:TE):TE:=λσ H Q=>ta σ H λx H1=>tb σ H1 λy H2=>r x y H2 Q
noncomputable def tUn (r:V->Hp->VK->Prop)(ta:TE):TE:=λσ H Q=>ta σ H λx H1=>r x H1 Q
noncomputable def rI (C:Int->Int->Prop)(g:Int->Int->V):R2:=λx y H Q=>∃ i j,x= .int i/\y= .int j/\C i j/\Q (g i j) H
noncomputable def rI0 (g:Int->Int->V):R2:=λx y H Q=>∃ i j,x= .int i/\y= .int j/\Q (g i j) H
noncomputable def rU (g:Int->V):V->Hp->VK->Prop:=λx H Q=>∃ i,x= .int i/\Q (g i) H
section
variable {X:Cx}{a b c:Expr}{ta tb tc:TE}{pos:Pos}
theorem Mi (ha:PE X a ta)(hb:PE X b tb){pins:List (Addr×Obj)}{s:Shared}{σ:St}{H:Hp}{R:V->V->Hp->Prop}(I:Inv X pins σ H s)
  (h:ta σ H λx H1=>tb σ H1 λy H2=>R x y H2){Q:Value->Shared->Prop}{f:Value->Value->Sem Value}
  (hf:∀v u s2 x y H2,Inv X pins σ H2 s2->XW x v->XW y u->R x y H2->wpAny (model X.prog X.w) X.A (f v u) Q X.xe s2):
  wpAny (model X.prog X.w) X.A (eval a X.env) (λv s₁=>wpAny (model X.prog X.w) X.A (eval b X.env) (λu s₂=>wpAny (model X.prog X.w) X.A (f v u) Q X.xe s₂) X.xe s₁) X.xe s:=by
 refine thn (ha pins s σ H _ I h) λv s1 r9=>?_
 obtain⟨x,H1,I1,r1,q1⟩:=r9
 refine thn (hb pins s1 σ H1 _ I1 q1) λu s2 r9=>?_
 obtain⟨y,H2,I2,r2,q2⟩:=r9
 exact hf v u s2 x y H2 I2 r1 r2 q2
theorem Xz {op:Operator}{r:R2}(ho:OpR X (binaryOp op) r)(ha:PE X a ta)(hb:PE X b tb):PE X (.BinOp a op b pos) (tOp r ta tb):=by
 intro pins s σ H Q I h
 exact wpAny_BinOp (Mi ha hb I h λv u s2 x y H2 I2 rx ry q=>ho pins s2 σ H2 x y v u Q I2 rx ry q)
theorem Q6 {op:UnaryOp}{r:V->Hp->VK->Prop}(ho:UnR X (unaryOp op) r)(ha:PE X a ta):PE X (.UnaryOp op a pos) (tUn r ta):=by
 intro pins s σ H Q I h
 exact UnaryOp_ (thn (ha pins s σ H _ I h) λv s1 r9=>by obtain⟨x,H1,I1,r1,q1⟩:=r9;exact ho pins s1 σ H1 x v Q I1 r1 q1)
theorem opI {f:Value->Value->Sem Value}{C:Int->Int->Prop}{g:Int->Int->Int}
  (rule:∀(i j:Int) (t u:Tok) (s:Shared) (Q:Value->Shared->Prop) (E:Value->Shared->Prop),C i j->Q (.int (g i j) s.toks) {s with toks:=s.toks+1}->wpAny (model X.prog X.w) X.A (f (.int i t) (.int j u)) Q E s):
  OpR X f (rI C λi j=>.int (g i j)):=by
 intro pins s σ H x y v u Q I rx ry h
 obtain⟨i,j,rfl,rfl,hc,q⟩:=h
 obtain⟨t,rfl⟩:=rx
 obtain⟨t',rfl⟩:=ry
 exact rule i j t t' s _ _ hc ⟨.int (g i j),H,I.tok _,⟨_,rfl⟩,q⟩
theorem MM {f:Value->Value->Sem Value}{g:Int->Int->Int}
  (rule:∀(i j:Int) (t u:Tok) (s:Shared) (Q:Value->Shared->Prop) (E:Value->Shared->Prop),Q (.int (g i j) s.toks) {s with toks:=s.toks+1}->wpAny (model X.prog X.w) X.A (f (.int i t) (.int j u)) Q E s):
  OpR X f (rI0 λi j=>.int (g i j)):=by
 intro pins s σ H x y v u Q I rx ry h
 obtain⟨i,j,rfl,rfl,q⟩:=h
 obtain⟨t,rfl⟩:=rx
 obtain⟨t',rfl⟩:=ry
 exact rule i j t t' s _ _ ⟨.int (g i j),H,I.tok _,⟨_,rfl⟩,q⟩
theorem LS {f:Value->Value->Sem Value}{g:Int->Int->Bool}
  (rule:∀(i j:Int) (t u:Tok) (s:Shared) (Q:Value->Shared->Prop) (E:Value->Shared->Prop),Q (.bool (g i j)) s->wpAny (model X.prog X.w) X.A (f (.int i t) (.int j u)) Q E s):
  OpR X f (rI0 λi j=>.bl (g i j)):=by
 intro pins s σ H x y v u Q I rx ry h
 obtain⟨i,j,rfl,rfl,q⟩:=h
 obtain⟨t,rfl⟩:=rx
 obtain⟨t',rfl⟩:=ry
 exact rule i j t t' s _ _ ⟨.bl (g i j),H,I,rfl,q⟩
noncomputable def MG (i j:Int):Prop:=0<=j/\j<=1000000/\i.natAbs<2^64
noncomputable def LV (i j:Int):Prop:=(-(2^64)<i/\i<2^64)∨(-(2^64)<j/\j<2^64)
theorem LV.ok {i j:Int}(h:LV i j):IntMulOk i j:=by
 rcases h with⟨h1,h2⟩ | ⟨h1,h2⟩
 ·exact .of_left (intBits_le_64 h1 h2)
 ·exact .of_right (intBits_le_64 h1 h2)
theorem Yk:OpR X (binaryOp .Add) (rI0 λi j=>.int (i+j)):=MM λ_ _ _ _ _ _ _ q=>add_int q
theorem Ki:OpR X (binaryOp .Sub) (rI0 λi j=>.int (i-j)):=MM λ_ _ _ _ _ _ _ q=>sub_int q
theorem YW:OpR X (binaryOp .Mult) (rI LV λi j=>.int (i*j)):=opI λ_ _ _ _ _ _ _ hc q=>mul_int q hc.ok
theorem Zo:OpR X (binaryOp .Mod) (rI (λ_ j=>0<j) λi j=>.int (i % j)):=opI λi j _ _ _ _ _ hc q=>by
 have h1:(0:Int)<j:=hc
 exact mod_int' (by omega) (by rw[Int.fmod_eq_emod_of_nonneg i (by omega)];exact q)
theorem Vm:OpR X (binaryOp .Pow) (rI MG λi j=>.int (i^j.toNat)):=opI λ_ _ _ _ _ _ _ hc q=>pow_int_small hc.1 hc.2.1 hc.2.2 q
theorem unI {f:Value->Sem Value}{g:Int->Int}
  (rule:∀(i:Int) (t:Tok) (s:Shared) (Q:Value->Shared->Prop) (E:Value->Shared->Prop),Q (.int (g i) s.toks) {s with toks:=s.toks+1}->wpAny (model X.prog X.w) X.A (f (.int i t)) Q E s):
  UnR X f (rU λi=>.int (g i)):=by
 intro pins s σ H x v Q I rx h
 obtain⟨i,rfl,q⟩:=h
 obtain⟨t,rfl⟩:=rx
 exact rule i t s _ _ ⟨.int (g i),H,I.tok _,⟨_,rfl⟩,q⟩
theorem ZN:UnR X (unaryOp .USub) (rU λi=>.int (-i)):=unI λ_ _ _ _ _ q=>neg_int q
end
noncomputable def LY:V->V->Bool
 | .non, .non=>true | .non, .int _=>true | .int _, .non=>true | .non, .bl _=>true | .bl _, .non=>true | .non, .str _=>true | .str _, .non=>true
 | .int _, .int _=>true | .bl _, .bl _=>true | .str _, .str _=>true | .byt _, .byt _=>true
 | .int _, .str _=>true | .str _, .int _=>true | .bl _, .str _=>true | .str _, .bl _=>true
 |_,_=>false
noncomputable def rEq:R2:=λx y H Q=>LY x y=true/\Q (.bl (decide (x=y))) H
noncomputable def rNe:R2:=λx y H Q=>LY x y=true/\Q (.bl (!decide (x=y))) H
theorem Dm {i j:Int}:decide (V.int i=V.int j)=(i==j):=by
 rw[Bool.eq_iff_iff]
 simp
theorem Ef {i j:Bool}:decide (V.bl i=V.bl j)=(i==j):=by
 rw[Bool.eq_iff_iff]
 simp
theorem Cr {i j:Str}:decide (V.str i=V.str j)=(i==j):=by
 rw[Bool.eq_iff_iff]
 simp
theorem DM {i j:Array UInt8}:decide (V.byt i=V.byt j)=(i.toList==j.toList):=by
 rw[Bool.eq_iff_iff]
 cases i
 cases j
 simp
section
variable {X:Cx}{a b c:Expr}{ta tb tc:TE}{pos:Pos}
theorem XY {pins:List (Addr×Obj)}{σ:St}{H:Hp}{s:Shared}{Q:VK}{k k':Bool}(I:Inv X pins σ H s)(q:Q (.bl k) H)(e:k=k'):EP X pins σ Q (.bool k') s:=by
 subst e
 exact⟨.bl k,H,I,rfl,q⟩
theorem Fj:OpR X (compareOp .Eq) rEq:=by
 intro pins s σ H x y v u Q I rx ry h
 obtain⟨hs,q⟩:=h
 cases x with
 |non=>
  cases rx
  cases y with
  |non=>cases ry;exact PySem.EqNone.eq_none_none (XY I q (by simp))
  |bl j=>cases ry;exact PySem.EqNone.eq_none_bool (XY I q (by simp))
  |int j=>obtain⟨t',rfl⟩:=ry;exact PySem.EqNone.eq_none_int (XY I q (by simp))
  |str j=>obtain⟨t',rfl⟩:=ry;exact PySem.EqNone.eq_none_str (XY I q (by simp))
  |_=>exact absurd (show false=true from hs) Bool.false_ne_true
 |bl i=>
  cases rx
  cases y with
  |non=>cases ry;exact PySem.EqNone.eq_bool_none (XY I q (by simp))
  |bl j=>cases ry;exact eq_bool (XY I q Ef)
  |str j=>obtain⟨t',rfl⟩:=ry;exact PySem.EqMixed.eq_bool_str (XY I q (by simp))
  |_=>exact absurd (show false=true from hs) Bool.false_ne_true
 |int i=>
  obtain⟨t,rfl⟩:=rx
  cases y with
  |non=>cases ry;exact PySem.EqNone.eq_int_none (XY I q (by simp))
  |int j=>obtain⟨t',rfl⟩:=ry;exact eq_int (XY I q Dm)
  |str j=>obtain⟨t',rfl⟩:=ry;exact PySem.EqMixed.eq_int_str (XY I q (by simp))
  |_=>exact absurd (show false=true from hs) Bool.false_ne_true
 |str i=>
  obtain⟨t,rfl⟩:=rx
  cases y with
  |non=>cases ry;exact PySem.EqNone.eq_str_none (XY I q (by simp))
  |bl j=>cases ry;exact PySem.EqMixed.eq_str_bool (XY I q (by simp))
  |int j=>obtain⟨t',rfl⟩:=ry;exact PySem.EqMixed.eq_str_int (XY I q (by simp))
  |str j=>obtain⟨t',rfl⟩:=ry;exact eq_str (XY I q Cr)
  |_=>exact absurd (show false=true from hs) Bool.false_ne_true
 |byt i=>
  obtain⟨t,rfl⟩:=rx
  cases y with
  |byt j=>obtain⟨t',rfl⟩:=ry;exact PySem.W.eq_bytes (XY I q DM)
  |_=>exact absurd (show false=true from hs) Bool.false_ne_true
 |_=>cases y<;> exact absurd (show false=true from hs) Bool.false_ne_true
theorem GY:OpR X (compareOp .NotEq) rNe:=by
 intro pins s σ H x y v u Q I rx ry h
 obtain⟨hs,q⟩:=h
 cases x with
 |non=>
  cases rx
  cases y with
  |non=>cases ry;exact PySem.EqNone.ne_none_none (XY I q (by simp))
  |bl j=>cases ry;exact PySem.EqNone.ne_none_bool (XY I q (by simp))
  |int j=>obtain⟨t',rfl⟩:=ry;exact PySem.EqNone.ne_none_int (XY I q (by simp))
  |str j=>obtain⟨t',rfl⟩:=ry;exact PySem.EqNone.ne_none_str (XY I q (by simp))
  |_=>exact absurd (show false=true from hs) Bool.false_ne_true
 |bl i=>
  cases rx
  cases y with
  |non=>cases ry;exact PySem.EqNone.ne_bool_none (XY I q (by simp))
  |bl j=>cases ry;exact ne_bool (XY I q (congrArg not Ef))
  |str j=>obtain⟨t',rfl⟩:=ry;exact PySem.EqMixed.ne_bool_str (XY I q (by simp))
  |_=>exact absurd (show false=true from hs) Bool.false_ne_true
 |int i=>
  obtain⟨t,rfl⟩:=rx
  cases y with
  |non=>cases ry;exact PySem.EqNone.ne_int_none (XY I q (by simp))
  |int j=>obtain⟨t',rfl⟩:=ry;exact ne_int (XY I q (congrArg not Dm))
  |str j=>obtain⟨t',rfl⟩:=ry;exact PySem.EqMixed.ne_int_str (XY I q (by simp))
  |_=>exact absurd (show false=true from hs) Bool.false_ne_true
 |str i=>
  obtain⟨t,rfl⟩:=rx
  cases y with
  |non=>cases ry;exact PySem.EqNone.ne_str_none (XY I q (by simp))
  |bl j=>cases ry;exact PySem.EqMixed.ne_str_bool (XY I q (by simp))
  |int j=>obtain⟨t',rfl⟩:=ry;exact PySem.EqMixed.ne_str_int (XY I q (by simp))
  |str j=>obtain⟨t',rfl⟩:=ry;exact ne_str (XY I q (congrArg not Cr))
  |_=>exact absurd (show false=true from hs) Bool.false_ne_true
 |byt i=>
  obtain⟨t,rfl⟩:=rx
  cases y with
  |byt j=>obtain⟨t',rfl⟩:=ry;exact PySem.W.ne_bytes (XY I q (congrArg not DM))
  |_=>exact absurd (show false=true from hs) Bool.false_ne_true
 |_=>cases y<;> exact absurd (show false=true from hs) Bool.false_ne_true
theorem KS:OpR X (compareOp .Lt) (rI0 λi j=>.bl (decide (i<j))):=LS λ_ _ _ _ _ _ _ q=>lt_int q
theorem Mp:OpR X (compareOp .LtE) (rI0 λi j=>.bl (decide (i<=j))):=LS λ_ _ _ _ _ _ _ q=>le_int q
theorem F5:OpR X (compareOp .Gt) (rI0 λi j=>.bl (decide (j<i))):=LS λ_ _ _ _ _ _ _ q=>gt_int q
theorem Mg:OpR X (compareOp .GtE) (rI0 λi j=>.bl (decide (j<=i))):=LS λ_ _ _ _ _ _ _ q=>ge_int q
theorem Ey:OpR X (compareOp .Is) (λx y H Q=>y= .non/\Q (.bl (decide (x= .non))) H):=by
 intro pins s σ H x y v u Q I rx ry h
 obtain⟨rfl,q⟩:=h
 cases ry
 refine is_none_gen (XY I q ?_)
 cases x<;> first
  | (cases rx;rfl)
  | (obtain⟨t,rfl⟩:=rx;rfl)
theorem HA:OpR X (compareOp .IsNot) (λx y H Q=>y= .non/\Q (.bl (!decide (x= .non))) H):=by
 intro pins s σ H x y v u Q I rx ry h
 obtain⟨rfl,q⟩:=h
 cases ry
 refine isnot_none_gen (XY I q ?_)
 cases x<;> first
  | (cases rx;rfl)
  | (obtain⟨t,rfl⟩:=rx;rfl)
theorem OpR.or {f:Value->Value->Sem Value}{r r':R2}(h:OpR X f r)(h':OpR X f r'):OpR X f (λx y H Q=>r x y H Q∨r' x y H Q):=by
 intro pins s σ H x y v u Q I rx ry q
 rcases q with q |q
 ·exact h pins s σ H x y v u Q I rx ry q
 ·exact h' pins s σ H x y v u Q I rx ry q
theorem XQ (b:Expr){op:CmpOp}(h:op≠ .In:=by decide)(h2:op≠ .NotIn:=by decide):behindInMarks op b=false:=by
 have e1:(op==CmpOp.In)=false:=by cases op<;> first |rfl |exact absurd rfl h
 have e2:(op==CmpOp.NotIn)=false:=by cases op<;> first |rfl |exact absurd rfl h2
 cases b<;> simp[behindInMarks,e1,e2]
theorem FG {op:CmpOp}{r:R2}(ho:OpR X (compareOp op) r)(ha:PE X a ta)(hb:PE X b tb)(hm:behindInMarks op b=false):PE X (.Compare a [op] [b] pos) (tOp r ta tb):=by
 intro pins s σ H Q I h
 exact wpAny_Compare1 (Mi ha hb I h λv u s2 x y H2 I2 rx ry q=>ho pins s2 σ H2 x y v u Q I2 rx ry q) hm
noncomputable def IF (t:TE):TT:=λσ H Q=>t σ H λx H'=>∃ k,x= .bl k/\Q k H'
theorem XE {op:CmpOp}{r:R2}(ho:OpR X (compareOp op) r)(ha:PE X a ta)(hb:PE X b tb)(hm:behindInMarks op b=false):PT X (.Compare a [op] [b] pos) (IF (tOp r ta tb)):=by
 intro pins s σ H Q I h
 refine wpAny_isTrue_Compare1 (thn (ha pins s σ H _ I h) λv s1 ⟨x,H1,I1,r1,q1⟩=>thn (hb pins s1 σ H1 _ I1 q1) λu s2 ⟨y,H2,I2,r2,q2⟩=>
  thn (ho pins s2 σ H2 x y v u _ I2 r1 r2 q2) λc s3 ⟨z,H3,I3,r3,k,e,q3⟩=>?_) hm
 subst e
 cases r3
 exact wpAny_truthy_bool ⟨H3,I3,q3⟩
theorem UV:(sizeLine:Nat)<2^63:=by rw[sizeLine_eq];decide
theorem Zc:OpR X (binaryOp .Add) (λx y H Q=>∃ i j,x= .str i/\y= .str j/\i.length+j.length<=sizeLine/\Q (.str (i++j)) H):=by
 intro pins s σ H x y v u Q I rx ry h
 obtain⟨i,j,rfl,rfl,hz,q⟩:=h
 obtain⟨t,rfl⟩:=rx
 obtain⟨t',rfl⟩:=ry
 exact add_str (λt' tk=>⟨.str (i++j),H,I.tok _,⟨_,rfl⟩,q⟩) hz
theorem Ky {x:V}{us:List Value}(r:XR [x] us):∃u,us=[u]/\XW x u:=by
 cases r with
 |cons r1 r2=>cases r2;exact⟨_,rfl,r1⟩
theorem IB {x y:V}{us:List Value}(r:XR [x,y] us):∃u w',us=[u,w']/\XW x u/\XW y w':=by
 cases r with
 |cons r1 r2=>
  cases r2 with
  |cons r3 r4=>cases r4;exact⟨_,_,rfl,r1,r3⟩
theorem Bl:ZJ X (.builtin "abs") (λxs H Q=>∃ i,xs=[.int i]/\Q (.int (if i<0 then-i else i)) H):=by
 intro pins s σ H xs us Q I r h
 obtain⟨i,rfl,q⟩:=h
 obtain⟨u,rfl,t,rfl⟩:=Ky r
 exact call_abs_int λu tk=>⟨.int (if i<0 then-i else i),H,I.tok _,⟨_,rfl⟩,q⟩
theorem DX (hc:X.calm=true):ZJ X (.builtin "max") (λxs H Q=>∃ i j,xs=[.int i, .int j]/\Q (.int (if j > i then j else i)) H):=by
 intro pins s σ H xs us Q I r h
 obtain⟨i,j,rfl,q⟩:=h
 obtain⟨u,w',rfl,⟨t,rfl⟩,⟨t',rfl⟩⟩:=IB r
 refine max_two_ints (I.ok.hd hc) λh' tk k=>⟨_,H,I.kept k,?_,q⟩
 by_cases hj:j > i
 ·rw[if_pos hj,if_pos hj];exact⟨_,rfl⟩
 ·rw[if_neg hj,if_neg hj];exact⟨_,rfl⟩
theorem Fv (hc:X.calm=true):ZJ X (.builtin "min") (λxs H Q=>∃ i j,xs=[.int i, .int j]/\Q (.int (if j<i then j else i)) H):=by
 intro pins s σ H xs us Q I r h
 obtain⟨i,j,rfl,q⟩:=h
 obtain⟨u,w',rfl,⟨t,rfl⟩,⟨t',rfl⟩⟩:=IB r
 refine min_two_ints (I.ok.hd hc) λh' tk k=>⟨_,H,I.kept k,?_,q⟩
 by_cases hj:j<i
 ·rw[if_pos hj,if_pos hj];exact⟨_,rfl⟩
 ·rw[if_neg hj,if_neg hj];exact⟨_,rfl⟩
theorem YY:ZJ X (.type "str") (λxs H Q=>∃ i,xs=[.int i]/\i.natAbs.log2<1920/\Q (.str (toString i)) H):=by
 intro pins s σ H xs us Q I r h
 obtain⟨i,rfl,hz,q⟩:=h
 obtain⟨u,rfl,t,rfl⟩:=Ky r
 exact PySem.P.str_of_int hz ⟨.str _,H,I.tok _,⟨_,rfl⟩,q⟩
end
structure ObjM (h:Heap)(x dx C:Addr)(mA:Str->Option Value):Prop where
 obj:h.get? x=some (PySem.W.instObj C dx)
 ns:h.Ns1 dx mA
 ne:dx≠x
theorem Ci {h:Heap}{dx:Addr}{mA:Str->Option Value}(n:h.Ns1 dx mA):∃od,h.get? dx=some od/\∀name,PySem.W.lookIn name od=some (mA name):=by
 obtain⟨o,es,ep,ho,hd,hk,_,hm⟩:=n
 refine⟨o,ho,λname=>?_⟩
 have e:=hm name
 unfold nsFind findBy at e
 rw[←Array.find?_toList] at e
 unfold PySem.W.lookIn
 rw[hd]
 dsimp only
 split
 ·rename_i y q
  rw[q] at e
  exact congrArg some e
 ·rename_i q
  rw[q] at e
  have a:es.toList.any (·.refKey)=false:=by
   rw[List.any_eq_false]
   intro y hy
   obtain⟨z,t,hkey⟩:=hk y (Array.mem_toList_iff.mp hy)
   simp[DictEntry.refKey,hkey]
  have a':¬es.toList.any (·.refKey)=true:=by rw[a];exact Bool.false_ne_true
  rw[if_neg a']
  exact congrArg some e
theorem ObjM.look {h:Heap}{x dx C:Addr}{mA:Str->Option Value}(I:ObjM h x dx C mA):∃od,PySem.W.InstAt h x (PySem.W.instObj C dx) C (some od)/\∀name,PySem.W.lookIn name od=some (mA name):=
 let ⟨od,ho,hl⟩:=Ci I.ns
 ⟨od,⟨I.obj,rfl,rfl,ho⟩,hl⟩
section
variable {prog:Program}{w:World}{A:Around}{E:Value->Shared->Prop}{s:Shared}{K:PySem.W.Frag}{x dx C f:Addr}{mA:Str->Option Value}{name:Str}{v:Value}
end
theorem GR.some_of {v:V}{o:Option Value}(r:GR (some v) o):∃u,o=some u/\XW v u:=by
 cases o with
 |none=>exact(show False from r).elim
 |some u=>exact⟨u,rfl,r⟩
section
variable {P:Program}{w:World}{H H':Hp}{h h':Heap}{a C dx:Addr}{fs fs':List (Str×V)}
theorem H9 (hok:HOk P w H h)(e:H a=some (.ins C dx fs)):∃mA,ObjM h a dx C mA/\(∀f,GR (fs.lookup f) (mA f))/\PySem.Within mA (fs.map (·.1))/\fs.length<=1000/\H dx=some (.own a):=by
 obtain⟨d,z,ne,ob,mA,n,r,q⟩:=(show Ym P w H h a (.ins C dx fs) from hok a _ e)
 exact⟨mA,⟨ob,n,ne⟩,r,q,z,d⟩
end
structure Cls (K:PySem.W.Frag)(C:Addr):Prop where
 pg:PySem.W.plainGet K C Str.empty=true
 hd:PySem.W.hasDictIn K C=true
 po:PySem.W.plainOver K C=true
 sa:PySem.W.findIn K (.ref C) "__setattr__" =some (some (.builtin "object.__setattr__"))
theorem Cls.get {K:PySem.W.Frag}{C:Addr}(c:Cls K C)(f:Str):PySem.W.plainGet K C f=true:=c.pg
section
variable {X:Cx}{pins:List (Addr×Obj)}{σ:St}{H:Hp}{s:Shared}{a C dx:Addr}{fs:List (Str×V)}{f:Str}{v:V}{A:Around}{E:Value->Shared->Prop}
theorem Inv.made (I:Inv X pins σ H s):Inv X pins σ (upd (upd H s.heap.objs.size (.own (s.heap.objs.size+1))) (s.heap.objs.size+1) (.ins C s.heap.objs.size []))
  {s with heap:=(s.heap.push PySem.W.emptyDict).push (PySem.W.instObj C s.heap.objs.size)}:=by
 have e1:(s.heap.push PySem.W.emptyDict).get? s.heap.objs.size=some PySem.W.emptyDict:=Heap.get?_push_size s.heap rfl
 have e2:((s.heap.push PySem.W.emptyDict).push (PySem.W.instObj C s.heap.objs.size)).get? (s.heap.objs.size+1)=some (PySem.W.instObj C s.heap.objs.size):=by
  have:=Heap.get?_push_size (s.heap.push PySem.W.emptyDict) (o:=PySem.W.instObj C s.heap.objs.size) rfl
  rwa [Heap.size_push] at this
 have e3:(s.heap.push PySem.W.emptyDict).Ns s.heap.objs.size (λ_=>none):=⟨PySem.W.emptyDict, #[],_,e1,rfl,(λe he=>absurd he (by simp)),λ_=>rfl⟩
 have I1:=I.laid (a:=s.heap.objs.size) (o:=.own (s.heap.objs.size+1)) (h':=s.heap.push PySem.W.emptyDict) (t':=s.toks) (λb u q=>Heap.get?_push_of_some _ q) (Nat.le_refl _) ⟨_,e1⟩
 refine I1.laid (a:=s.heap.objs.size+1) (o:=.ins C s.heap.objs.size []) (t':=s.toks) (λb u q=>Heap.get?_push_of_some _ q) (Nat.le_of_eq (Heap.size_push _ _)) ?_
 have ne:s.heap.objs.size≠s.heap.objs.size+1:=Nat.ne_of_lt (Nat.lt_succ_self _)
 refine⟨by rw[Xp ne,X2],Nat.zero_le _,ne,e2,λ_=>none,(Heap.Ns1.of_empty e3).at λo q=>Heap.get?_push_of_some _ q,λ_=>True.intro,λy hy=>absurd rfl hy⟩
end
section
variable {X:Cx}{o e value:Expr}{f:Str}{pos pos' tpos:Pos}{ta tv:TE}
end
section
variable {X:Cx}{pins:List (Addr×Obj)}{σ:St}{H:Hp}{s:Shared}{A:Around}{E:Value->Shared->Prop}{Q:Value->Shared->Prop}{c:Value}{b:Bool}
inductive TyOf (K:PySem.W.Frag)(H:Hp):V->Value->Prop where
 |non:TyOf K H .non (.type "NoneType")
 |bl (x:Bool):TyOf K H (.bl x) (.type "bool")
 |int (i:Int):TyOf K H (.int i) (.type "int")
 |str (x:Str):TyOf K H (.str x) (.type "str")
 |flt (x:UInt64):TyOf K H (.flt x) (.type "float")
 |lst {a:Addr}{xs:List V} (e:H a=some (.lst xs)):TyOf K H (.ref a) (.type "list")
 |frz {a:Addr}{o:Obj}{xs:List V} (e:H a=some (.frz o (.lst xs))):TyOf K H (.ref a) (.type "list")
 |tup {a:Addr}{xs:List V} (e:H a=some (.tup xs)):TyOf K H (.ref a) (.type "tuple")
 |dK {a:Addr}{kvs:List (Key×V)} (e:H a=some (.dK kvs)):TyOf K H (.ref a) (.type "dict")
 |dT {a:Addr}{kvs:List (List Key×V)} (e:H a=some (.dT kvs)):TyOf K H (.ref a) (.type "dict")
 |ins {a C dx:Addr}{fs:List (Str×V)} (e:H a=some (.ins C dx fs)) (cl:Cls K C) (ha:PySem.W.findIn K (.ref C) "__class__" =some (some (.builtin "object.__class__")))
   (hn:PySem.W.specialIn K (.builtin "object.__class__") "__get__" =some (some (.builtin "getset_descriptor.__get__"))) (htk:PySem.W.takesIn K (.builtin "object.__class__")=some true)
   (hm:PySem.W.mroIn K C (.type "object")=some true):TyOf K H (.ref a) (.ref C)
theorem FH {x:V}{u t:Value}(I:Inv X pins σ H s)(rx:XW x u)(ty:TyOf X.K H x t)(e:PySem.W.kitOne X.K t c=some b)(h:∀tk,Q (.bool b) {s with toks:=tk}):
  wpAny (model X.prog X.w) A (call (.builtin "isinstance") [u,c]) Q E s:=by
 cases ty with
 |non=>cases(show u=Value.none from rx);exact PySem.W.kia_one PySem.W.kitx_none I.kIn True.intro e (λz=>nomatch z) h
 |bl y=>cases(show u=Value.bool y from rx);exact PySem.W.kia_one PySem.W.kitx_bool I.kIn True.intro e (λz=>nomatch z) h
 |int i=>obtain⟨t,q⟩:=(show ∃t,u=Value.int i t from rx);cases q;exact PySem.W.kia_one PySem.W.kitx_int I.kIn True.intro e (λz=>nomatch z) h
 |str y=>obtain⟨t,q⟩:=(show ∃t,u=Value.str y t from rx);cases q;exact PySem.W.kia_one PySem.W.kitx_str I.kIn True.intro e (λz=>nomatch z) h
 |flt y=>obtain⟨t,q⟩:=(show ∃t,u=Value.float y t from rx);cases q;exact PySem.W.kia_one PySem.W.kitx_float I.kIn True.intro e (λz=>nomatch z) h
 | @lst a xs ea=>
  cases(show u=Value.ref a from rx)
  obtain⟨_,_,n,_,h1⟩:=(show Ym X.prog X.w H s.heap a (.lst xs) from I.hok a _ ea)
  exact PySem.W.kia_one PySem.W.kitx_list I.kIn ⟨_,h1,rfl⟩ e (λz=>nomatch z) h
 | @frz a ob xs ea=>
  cases(show u=Value.ref a from rx)
  obtain⟨_,_,_,n,_,h1⟩:=(show Ym X.prog X.w H s.heap a (.frz ob (.lst xs)) from I.hok a _ ea)
  exact PySem.W.kia_one PySem.W.kitx_list I.kIn ⟨_,h1,rfl⟩ e (λz=>nomatch z) h
 | @tup a xs ea=>
  cases(show u=Value.ref a from rx)
  obtain⟨_,_,_,p⟩:=(show Ym X.prog X.w H s.heap a (.tup xs) from I.hok a _ ea)
  obtain⟨o,h1,h2,_⟩:=p
  exact PySem.W.kia_one PySem.W.kitx_tuple I.kIn ⟨o,h1,h2.1⟩ e (λz=>nomatch z) h
 | @dK a kvs ea=>
  cases(show u=Value.ref a from rx)
  obtain⟨_,_,vs,_,p⟩:=(show Ym X.prog X.w H s.heap a (.dK kvs) from I.hok a _ ea)
  obtain⟨o,es,ep,h1,h2,_⟩:=p
  exact PySem.W.kia_one PySem.W.kitx_dict I.kIn ⟨o,h1,h2.1⟩ e (λz=>nomatch z) h
 | @dT a kvs ea=>
  cases(show u=Value.ref a from rx)
  obtain⟨_,_,xs,_,o,es,ep,h1,h2,_⟩:=(show Ym X.prog X.w H s.heap a (.dT kvs) from I.hok a _ ea)
  exact PySem.W.kia_one PySem.W.kitx_dict I.kIn ⟨o,h1,h2.1⟩ e (λz=>nomatch z) h
 | @ins a C dx fs ea cl ha hn htk hm=>
  cases(show u=Value.ref a from rx)
  obtain⟨mA,O,_⟩:=H9 I.hok ea
  obtain⟨od,J,_⟩:=O.look
  exact PySem.W.kia_one (PySem.W.kitx_own (cl.get _) cl.hd ha hn htk hm) I.kIn J e (λz=>nomatch z) h
end
structure Room (k:Nat)(A:Around):Prop where
 hd:A.handled=none
 dp:A.depth+3*k+5<recursionLimit
 un:A.units+16*k+200<cLine
theorem Room.mono {j k:Nat}{A:Around}(r:Room k A)(h:j<=k):Room j A:=⟨r.hd,by have:=r.dp;omega,by have:=r.un;omega⟩
theorem Room.deeper {k:Nat}{A:Around}(r:Room (k+1) A)(env:Env):Room k (A.deeper env):=
 ⟨r.hd,by have:=r.dp;show A.depth+1+3*k+5<_;omega,by have:=r.un;show A.units+3+16*k+200<_;omega⟩
theorem Room.in1 {k:Nat}{A:Around}(r:Room (k+1) A):Room k A.in1:=
 ⟨r.hd,by have:=r.dp;show A.depth+3*k+5<_;omega,by have:=r.un;show A.units+1+16*k+200<_;omega⟩
theorem Room.depth {k:Nat}{A:Around}(r:Room k A):A.depth<recursionLimit:=by have:=r.dp;omega
theorem Room.units {k:Nat}{A:Around}(r:Room k A):A.units+64<cLine:=by have:=r.un;omega
noncomputable def ZO:TA:=λ_ H Q=>Q [] H
noncomputable def XT (ta:TE)(tr:TA):TA:=λσ H Q=>ta σ H λx H1=>tr σ H1 λxs H2=>Q (x::xs) H2
section
variable {X:Cx}{e:Expr}{es:List Expr}{te:TE}{t:TA}{pos:Pos}
theorem Xf:PA X [] ZO:=λ_ _ _ _ H Q I h=>Calls.spliced_nil ⟨[],H,I, .nil,h⟩
theorem Xc (ha:PE X e te)(hr:PA X es t)(hs:starEach (e::es) X.env=(false,eval e X.env)::starEach es X.env:=by rfl):PA X (e::es) (XT te t):=by
 intro pos pins s σ H Q I h
 rw[hs]
 show wpAny _ _ (spliced ((false,eval e X.env)::backTo pos (starEach es X.env))) _ _ s
 refine Calls.spliced_cons (thn (ha pins s σ H _ I h) λu s1 r9=>?_)
 obtain⟨x,H1,I1,r1,q1⟩:=r9
 exact thn (hr pos pins s1 σ H1 _ I1 q1) λus s2 r9=>by obtain⟨xs,H2,I2,r2,q2⟩:=r9;exact⟨x::xs,H2,I2, .cons r1 r2,q2⟩
noncomputable def LX (t:TA):TE:=λσ H Q=>t σ H λxs H1=>xs.length<=sizeLine/\∀p,H1 p=none->Q (.ref p) (upd H1 p (.tup xs))
noncomputable def L5 (t:TA):TE:=λσ H Q=>t σ H λxs H1=>xs.length<=sizeLine/\∀p,H1 p=none->Q (.ref p) (upd H1 p (.lst xs))
theorem YZ {x1}(h:PA X es t):PE X (.Tuple es x1 pos) (LX t):=by
 intro pins s σ H Q I hq
 refine wpAny_Tuple_spliced (thn (h pos pins s σ H _ I hq) λus s1 ⟨xs,H1,I1,r,z,q⟩=>⟨by rw[←r.length];exact z,?_⟩)
 have hf:H1 s1.heap.objs.size=none:=I1.hok.fresh (Nat.le_refl _)
 refine⟨.ref s1.heap.objs.size,upd H1 s1.heap.objs.size (.tup xs),I1.laid (t':=s1.toks) (λb u e=>Heap.get?_push_of_some _ e) (Nat.le_refl _) ?_,rfl,q _ hf⟩
 exact⟨z,us,r,⟨_,Heap.get?_push_size _ rfl,⟨rfl,rfl⟩,_,rfl⟩⟩
theorem Yq (h:PA X es t):PE X (.List es pos) (L5 t):=by
 intro pins s σ H Q I hq
 refine wpAny_List_spliced (thn (h pos pins s σ H _ I hq) λus s1 ⟨xs,H1,I1,r,z,q⟩=>⟨by rw[←r.length];exact z,?_⟩)
 have hf:H1 s1.heap.objs.size=none:=I1.hok.fresh (Nat.le_refl _)
 refine⟨.ref s1.heap.objs.size,upd H1 s1.heap.objs.size (.lst xs),I1.laid (t':=s1.toks) (λb u e=>Heap.get?_push_of_some _ e) (Nat.le_refl _) ?_,rfl,q _ hf⟩
 exact⟨z,us,0,r,Heap.get?_push_size _ rfl⟩
end
noncomputable abbrev Sp:=List V->Hp->VK->XK->Prop
noncomputable abbrev CXT:=List Env->Hp->Shared->XK->Value->Shared->Prop
structure Env0 (P:Program)(w:World)(K:PySem.W.Frag)(mg:Str->Option Value)(base:Heap)(A:Around)(outer:List Env)(s:Shared)(H:Hp):Prop where
 frames:A.frames=some outer
 mod:Mod K mg base
 bs:∀b o,base.get? b=some o->s.heap.get? b=some o/\H b=none
 bsz:base.objs.size<=s.heap.objs.size
 funs:s.heap.FunFrames base outer
 frf:∀b∈frs outer,H b=none
 hok:HOk P w H s.heap
 bare:AllBare s.gens
noncomputable def CE (outer:List Env)(P:Program)(w:World)(H:Hp)(s:Shared)(Q:VK)(u:Value)(s':Shared):Prop:=
 ∃v H',s'.os=s.os/\AllBare s'.gens/\Un (frs outer) [] H H' s.heap s'.heap/\HOk P w H' s'.heap/\XW v u/\Q v H'
noncomputable def CR (CX:CXT)(outer:List Env)(P:Program)(w:World)(H:Hp)(s:Shared)(Q:VK)(E:XK)(r:Result)(s':Shared):Prop:=
 match r with
 | .ok (.ret u)=>CE outer P w H s Q u s'
 | .ok _=>False
 | .error e=>CX outer H s E e s'
structure FnOk (P:Program)(w:World)(K:PySem.W.Frag)(mg:Str->Option Value)(base:Heap)(CX:CXT)(k:Nat)(f:Addr)(fd:FuncData)(ps:List Str)(sp:Sp):Prop where
 len:∀vs H Q E,sp vs H Q E->vs.length=ps.length
 run:∀(A:Around) (outer:List Env) (s:Shared) (H:Hp) (args:Args) (us:List Value) (vs:List V) (Q:VK) (E:XK),Room k A->Env0 P w K mg base A outer s H->BindsTo s fd args (ps.zip us)->XR vs us->sp vs H Q E->
  codeAny (model P w) A (.call (.ref f) args) (CR CX outer P w H s Q E) s
theorem FnOk.mono {P:Program}{w:World}{K:PySem.W.Frag}{mg:Str->Option Value}{base:Heap}{CX:CXT}{j k:Nat}{f:Addr}{fd:FuncData}{ps:List Str}{sp:Sp}(F:FnOk P w K mg base CX j f fd ps sp)(h:j<=k):
  FnOk P w K mg base CX k f fd ps sp:=⟨F.len,λA outer s H args us vs Q E hr=>F.run A outer s H args us vs Q E (hr.mono h)⟩
theorem FnOk.imp {P:Program}{w:World}{K:PySem.W.Frag}{mg:Str->Option Value}{base:Heap}{CX:CXT}{k:Nat}{f:Addr}{fd:FuncData}{ps:List Str}{sp sp':Sp}(F:FnOk P w K mg base CX k f fd ps sp)
  (h:∀vs H Q E,sp' vs H Q E->sp vs H Q E):FnOk P w K mg base CX k f fd ps sp':=
 ⟨λvs H Q E q=>F.len vs H Q E (h _ _ _ _ q),λA outer s H args us vs Q E hr he hb hv hs=>F.run A outer s H args us vs Q E hr he hb hv (h _ _ _ _ hs)⟩
theorem Env0.in1 {P:Program}{w:World}{K:PySem.W.Frag}{mg:Str->Option Value}{base:Heap}{A:Around}{outer:List Env}{s:Shared}{H:Hp}(e:Env0 P w K mg base A outer s H):
  Env0 P w K mg base A.in1 outer s H:=⟨e.frames,e.mod,e.bs,e.bsz,e.funs,e.frf,e.hok,e.bare⟩
section
variable {X:Cx}{pins:List (Addr×Obj)}{σ:St}{H:Hp}{s s':Shared}
theorem Inv.env0 (I:Inv X pins σ H s):Env0 X.prog X.w X.K X.mg X.base X.A X.stack s H:=
 ⟨I.ok.frames,I.ok.mod,I.bs,Nat.le_trans I.ok.bsz I.sz,I.stack,I.stkFree,I.hok,I.bare⟩
theorem Inv.after {Q:VK}{u:Value}(I:Inv X pins σ H s)(h:CE X.stack X.prog X.w H s Q u s'):EP X pins σ Q u s':=by
 obtain⟨v,H',os,bare,un,hok,r,q⟩:=h
 obtain⟨hh,g,d,t,os'⟩:=s'
 obtain rfl:os'=s.os:=os
 exact⟨v,H',I.call (h':=hh) (g':=g) (d':=d) (t':=t) (ch:=[]) un hok bare (λb z=>absurd z (by simp)),r,q⟩
end
noncomputable def U5 (sp:Sp)(dvs:List V)(E:XK)(t:TA):TE:=λσ H Q=>t σ H λvs H1=>sp (vs++dvs) H1 Q E
noncomputable def UA (K:PySem.W.Frag)(fd:FuncData)(ps:List Str)(ds:List Value):Prop:=
 ∀(s:Shared) (us:List Value),K.In s.heap->(us++ds).length=ps.length->BindsTo s fd ⟨us,[]⟩ (ps.zip (us++ds))
theorem UA.all {K:PySem.W.Frag}{fd:FuncData}{ps:List Str}(h:∀us:List Value,us.length=ps.length->bindArgs fd ⟨us,[]⟩=pure (ps.zip us)):UA K fd ps []:=λs us _ hl=>by
 rw[List.append_nil] at hl⊢
 exact .of_eq (h us hl)
noncomputable def VF (CX:CXT)(X:Cx)(E:XK):Prop:=∀ (pins:List (Addr×Obj)) (σ:St) (H:Hp) (s:Shared) (e:Value) (s':Shared),Inv X pins σ H s->CX X.stack H s E e s'->X.xe e s'
section
variable {X:Cx}{CX:CXT}{k:Nat}{f C:Addr}{fd:FuncData}{ps:List Str}{sp:Sp}{dvs:List V}{ds:List Value}{E:XK}{x m:Str}{p pos apos:Pos}{e o:Expr}{es:List Expr}{ta:TE}{t:TA}
theorem IH {pins:List (Addr×Obj)}{σ:St}{H:Hp}{s:Shared}{Q:VK}{us:List Value}{vs:List V}(F:FnOk X.prog X.w X.K X.mg X.base CX k f fd ps sp)(hr:Room k X.A)(hb:UA X.K fd ps ds)(hd:XR dvs ds)(hx:VF CX X E)
  (I:Inv X pins σ H s)(r:XR vs us)(h:sp (vs++dvs) H Q E):wpAny (model X.prog X.w) X.A (call (.ref f) us) (EP X pins σ Q) X.xe s:=by
 have r2:XR (vs++dvs) (us++ds):=r.append hd
 have hl:(us++ds).length=ps.length:=by rw[←r2.length];exact F.len _ _ _ _ h
 refine wpAny_call (codeAny_mono (F.run X.A X.stack s H ⟨us,[]⟩ (us++ds) (vs++dvs) Q E hr I.env0 (hb s us I.kIn hl) r2 h) λr s' hq=>?_)
 cases r with
 |error e=>exact hx pins σ H s e s' I hq
 |ok fl=>
  cases fl with
  |ret u=>exact I.after hq
  |next=>exact False.elim hq
  |brk=>exact False.elim hq
  |cont=>exact False.elim hq
theorem Di (F:FnOk X.prog X.w X.K X.mg X.base CX k f fd ps sp)(hr:Room k X.A)(hg:Gl X x)(hm:X.mg x=some (.ref f))(hk:PySem.W.keepIn X.K (.ref f)=true)(hb:UA X.K fd ps ds)(hd:XR dvs ds)(hx:VF CX X E)
  (ha:PA X (e::es) t)(hdb:(x==("__debug__":Str))=false:=by decide)(he:starEach (e::es) X.env=(false,eval e X.env)::starEach es X.env:=by rfl)(hpl:(backTo pos (starEach es X.env)).any (·.1)=false:=by rfl):
  PE X (.Call (.Name x p) (e::es) [] pos) (U5 sp dvs E t):=by
 intro pins s σ H Q I h
 refine wpAny_Call_Name_kw (VZ I hg hm ?_ hdb)
 refine PySem.W.callWith_K (h₀:=X.base) I.ok.mod.kin hk (thn (ha pos pins s σ H _ I h) λus s1 ⟨vs,H1,I1,r,q⟩=>⟨I1.kIn,?_⟩) he hpl
 exact IH F hr hb hd hx I1 r q
end
section
variable {X:Cx}{CX:CXT}{k:Nat}{f C:Addr}{fd:FuncData}{ps ks:List Str}{sp:Sp}{E:XK}{x m:Str}{p pos apos kpos:Pos}{e o:Expr}{es:List Expr}{kws:List Keyword}{te ta:TE}{t tk:TA}{nm:Option Str}
variable {g:List Value->List Value->List Value}{gV:List V->List V->List V}
end
structure FnScope (N P:List Str)(sc:Scope):Prop where
 kind:sc.kind= .function
 co:sc.isCoroutine=false
 gen:sc.isGenerator=false
 nd:N.Nodup
 pre:N.take P.length=P
 par:∀x∈P,sc.names.lookup x=some .local∨sc.names.lookup x=some .cell
 nofree:∀y∈sc.names,y.2≠ .free
theorem UC {kindOf:Str->Option NameKind}{x:Str}:∀{binds:List (Str×Value)}{m:Str->Option Value},(∀v,(x,v)∉binds)->bindL kindOf binds m x=m x
 | [],_,_=>rfl
 | (n,v)::r,m,h=>by
  unfold bindL
  rw[UC λw hw=>h w (List.mem_cons_of_mem _ hw)]
  split
  ·have:x≠n:=by rintro rfl;exact h v List.mem_cons_self
   simp[this]
  ·rfl
theorem UJ {kindOf:Str->Option NameKind}{x:Str}:∀{binds:List (Str×Value)}{m:Str->Option Value},(∀v,(x,v)∉binds)->bindC kindOf binds m x=m x
 | [],_,_=>rfl
 | (n,v)::r,m,h=>by
  unfold bindC
  rw[UJ λw hw=>h w (List.mem_cons_of_mem _ hw)]
  split
  ·rfl
  ·have:x≠n:=by rintro rfl;exact h v List.mem_cons_self
   simp[this]
theorem Kf {kindOf:Str->Option NameKind}{x:Str}{v:Value}:∀{P:List Str}{vs:List Value}{i:Nat}{m:Str->Option Value},P.Nodup->P[i]?=some x->vs[i]?=some v->kindOf x=some .local->
  bindL kindOf (P.zip vs) m x=some v
 | [],_,_,_,_,h,_,_=>by simp at h
 |_::_,[],_,_,_,_,h,_=>by simp at h
 |p::P,w::vs,0,m,nd,h1,h2,hk=>by
  simp at h1 h2;subst h1;subst h2
  show bindL kindOf ((p,w)::P.zip vs) m p=_
  unfold bindL
  rw[UC λv hv=>(List.nodup_cons.mp nd).1 (List.of_mem_zip hv).1,if_pos hk]
  simp
 |p::P,w::vs,i+1,m,nd,h1,h2,hk=>by
  show bindL kindOf ((p,w)::P.zip vs) m x=_
  unfold bindL
  exact Kf (i:=i) (List.nodup_cons.mp nd).2 (by simpa using h1) (by simpa using h2) hk
theorem UQ {kindOf:Str->Option NameKind}{x:Str}{v:Value}:∀{P:List Str}{vs:List Value}{i:Nat}{m:Str->Option Value},P.Nodup->P[i]?=some x->vs[i]?=some v->kindOf x≠some .local->
  bindC kindOf (P.zip vs) m x=some v
 | [],_,_,_,_,h,_,_=>by simp at h
 |_::_,[],_,_,_,_,h,_=>by simp at h
 |p::P,w::vs,0,m,nd,h1,h2,hk=>by
  simp at h1 h2;subst h1;subst h2
  show bindC kindOf ((p,w)::P.zip vs) m p=_
  unfold bindC
  rw[UJ λv hv=>(List.nodup_cons.mp nd).1 (List.of_mem_zip hv).1,if_neg hk]
  simp
 |p::P,w::vs,i+1,m,nd,h1,h2,hk=>by
  show bindC kindOf ((p,w)::P.zip vs) m x=_
  unfold bindC
  exact UQ (i:=i) (List.nodup_cons.mp nd).2 (by simpa using h1) (by simpa using h2) hk
noncomputable def Vc (N:List Str)(vs:List V):St:=vs.map some++List.replicate (N.length-vs.length) none
noncomputable def Fe (CX:CXT)(P:Program)(w:World)(K:PySem.W.Frag)(mg:Str->Option Value)(base:Heap)(N:List Str)(qual:Str)(scope:Scope)(f:Addr)(cd:Value)(A:Around)(outer:List Env)(s:Shared)(H:Hp)(E:XK):Cx where
 prog:=P
 w:=w
 K:=K
 mg:=mg
 base:=base
 A:=A.deeper (envOfC qual scope s.heap.objs.size f cd)
 N:=N
 s₀:=s
 H₀:=H
 env:=envOfC qual scope s.heap.objs.size f cd
 outer:=outer
 stack:=envOfC qual scope s.heap.objs.size f cd::outer
 ex:=[]
 calm:=true
 fn:=λ_=>true
 pn:=[]
 xe:=λe s'=>wpAny (model P w) (A.deeper (envOfC qual scope s.heap.objs.size f cd)) (leaving (envOfC qual scope s.heap.objs.size f cd) e) (λ_ s''=>CX outer H s E e s'') (λe' s''=>CX outer H s E e' s'') s'
theorem GN {sc:Scope}{n:Nat}{x:Str}(h:sc.names.lookup x=some .cell):∃c,(cellsFrom n sc.names []).lookup x=some c:=by
 have q:=PySem.W.cellsFrom_some sc.names n [] (.inl h)
 exact Option.isSome_iff_exists.mp q
theorem FN {CX:CXT}{P:Program}{w:World}{K:PySem.W.Frag}{mg:Str->Option Value}{base:Heap}{N ps:List Str}{qual:Str}{scope:Scope}{f:Addr}{cd:Value}{A:Around}{outer:List Env}{s s1:Shared}{H:Hp}{E:XK}{us:List Value}{vs:List V}
  (S:FnScope N ps scope)(hd:A.handled=none)(e0:Env0 P w K mg base A outer s H)(hl:vs.length=ps.length)(r:XR vs us)
  (x:InCallC s s.heap.objs.size (bindL (envOfC qual scope s.heap.objs.size f cd).kindOf (ps.zip us) λ_=>none) (cellsFrom (s.heap.objs.size+1) scope.names []) (bindC (envOfC qual scope s.heap.objs.size f cd).kindOf (ps.zip us) λ_=>none) s1):
  Inv (Fe CX P w K mg base N qual scope f cd A outer s H E) [] (Vc N vs) H s1:=by
 have hpl:ps.length<=N.length:=by have:=congrArg List.length S.pre;rw[List.length_take] at this;omega
 obtain⟨h1,tk,rfl,hk⟩:=x.done
 have noA:∀b:Addr,b∉(Fe CX P w K mg base N qual scope f cd A outer s H E).ex:=λb z=>absurd (show b∈([]:List Addr) from z) (by simp)
 refine⟨⟨e0.mod,S.kind,rfl,rfl,Nat.le_refl _,λy z c h1 h2=>?_,λy hy=>?_,λy c _ h=>?_,λ_=>hd,Around.frames_deeper e0.frames, .inr ⟨rfl,rfl⟩,λb z=>absurd z (noA b),e0.bs,e0.bsz,λb _ _=>noA b,λb z=>absurd z (noA b),e0.funs,e0.frf⟩,
  rfl,e0.bare,Un.kept hk,⟨_,x.toInCall.ns,λi y v h1 h2 h3=>?_⟩,λy c h=>⟨_,x.cell y c h⟩,e0.hok.fresh (Nat.le_refl _),λy c h=>?_,λp hp=>absurd (show p∈([]:List (Addr×Obj)) from hp) (by simp),e0.hok.kept hk,?_⟩
 ·exact name_of_addr x.apart (PySem.mem_of_lookup h1) (PySem.mem_of_lookup h2)
 ·have hy:scope.names.lookup y=some .cell∨scope.names.lookup y=some .free:=hy
  rcases hy with hy |hy
  ·exact GN hy
  ·exact absurd rfl (S.nofree _ (PySem.mem_of_lookup hy))
 ·exact Nat.le_of_lt (x.above y c (PySem.mem_of_lookup h))
 ·have hi:i<vs.length:=by
   unfold Vc at h2
   by_cases hi:i<vs.length
   ·exact hi
   ·rw[List.getElem?_append_right (by simpa using hi)] at h2
    rw[List.getElem?_replicate] at h2
    split at h2<;> cases h2
  have ha:vs[i]?=some v:=by
   unfold Vc at h2
   rw[List.getElem?_append_left (by simpa using hi),List.getElem?_map] at h2
   cases e:vs[i]? with
   |none=>rw[e] at h2;cases h2
   |some a=>rw[e] at h2;cases h2;rfl
  obtain⟨u,hu,rv⟩:=r.get ha
  have hp:ps[i]?=some y:=by
   rw[←S.pre,List.getElem?_take_of_lt (by omega)];exact h1
  have ndP:ps.Nodup:=by rw[←S.pre];exact S.nd.sublist (List.take_sublist _ _)
  refine⟨u,rv,?_⟩
  rcases S.par y (List.mem_of_getElem? hp) with k |k
  ·exact .inl ⟨k,Kf ndP hp hu k⟩
  ·obtain⟨c,e⟩:=GN (n:=s.heap.objs.size+1) k
   refine .inr ⟨.inl k,c,e,?_⟩
   have q:=x.cell y c e
   rw[UQ ndP hp hu (by show scope.names.lookup y≠_;rw[k];decide)] at q
   exact q
 ·exact e0.hok.fresh (Nat.le_of_lt (x.above y c (PySem.mem_of_lookup h)))
 ·unfold Vc
  show _=N.length
  rw[List.length_append,List.length_map,List.length_replicate]
  omega
theorem I9 {CX:CXT}{P:Program}{w:World}{K:PySem.W.Frag}{mg:Str->Option Value}{base:Heap}{k:Nat}{f:Addr}{name qual:Str}{params:Arguments}{body:List Stmt}{scope:Scope}{dV kV doc pm cdv ct oc:Value}{an od:Option Addr}
  {osl:Array (Option Value)}{N ps:List Str}{sp:Sp}(lk:K.lookup f=some ⟨oc,od, .func (PySem.W.fnOf name qual params body scope dV kV doc pm an cdv ct),osl⟩)(hcd:PySem.W.codeIn K cdv qual=true)(S:FnScope N ps scope)
  (len:∀vs H Q E,sp vs H Q E->vs.length=ps.length)
  (hbody:∀(A:Around) (outer:List Env) (s:Shared) (H:Hp) (vs:List V) (Q:VK) (E:XK),Room k (A.deeper (envOfC qual scope s.heap.objs.size f cdv))->sp vs H Q E->
   ∃t,PSs (Fe CX P w K mg base N qual scope f cdv A outer s H E) body t/\t {nx:=λ_ H'=>Q .non H',rt:=Q} (Vc N vs) H):
  FnOk P w K mg base CX (k+1) f (PySem.W.fnOf name qual params body scope dV kV doc pm an cdv ct) ps sp:=by
 refine⟨len,λA outer s H args us vs Q E hr e0 hb r hsp=>?_⟩
 have hl:=len _ _ _ _ hsp
 have KX:K.In s.heap:=e0.mod.kin.keeps λb o e=>(e0.bs b o e).1
 have lim:s.heap.NoLimit:=e0.mod.nolimit.keeps λb o e=>(e0.bs b o e).1
 have hkind:∀y∈ps.zip us,scope.names.lookup y.1=some .local∨(scope.names.lookup y.1=some .cell/\((cellsFrom (s.heap.objs.size+1) scope.names []).lookup y.1).isSome=true):=λ⟨n,v⟩ hy=>by
  rcases S.par n (List.of_mem_zip hy).1 with q |q
  ·exact .inl q
  ·exact .inr ⟨q,PySem.W.cellsFrom_some _ _ _ (.inl q)⟩
 refine codeAny_call_function hr.depth (KX _ _ lk) rfl S.co S.gen rfl (PySem.W.codeRec_of KX hcd) (hb _ _ _ _ ?_)
 refine wpAny_newFunctionEnv_cells S.kind hkind λenv he s1 x=>?_
 subst he
 refine⟨lim.keeps x.toInCall.keep,codeAny_func ?_⟩
 obtain⟨t,ht,hq⟩:=hbody A outer s H vs Q E (hr.deeper _) hsp
 have I:Inv (Fe CX P w K mg base N qual scope f cdv A outer s H E) [] (Vc N vs) H s1:=FN S hr.hd e0 hl r x
 refine wpAny_mono (ht [] s1 (Vc N vs) H _ I hq) (λfl s' hs=>?_) λe s' hs=>hs
 have fin:∀{σ':St}{H':Hp}{v:V}{u:Value},Inv (Fe CX P w K mg base N qual scope f cdv A outer s H E) [] σ' H' s'->XW v u->Q v H'->CE outer P w H s Q u s':=
  fun {σ' H' v u} J rv q=>⟨v,H',J.os,J.bare,J.base,J.hok,rv,q⟩
 cases fl with
 |ret u=>
  obtain⟨v,σ',H',J,rv,q⟩:=hs
  exact fin J rv q
 |next=>
  obtain⟨σ',H',J,q⟩:=hs
  exact fin (v:=V.non) (u:=Value.none) J rfl q
 |brk=>
  obtain⟨_,_,_,q⟩:=hs
  exact False.elim q
 |cont=>
  obtain⟨_,_,_,q⟩:=hs
  exact False.elim q
section
variable {X:Cx}{x:Str}{p pos:Pos}{e:Expr}{es:List Expr}{t:TA}{id T:String}{r:List V->Hp->VK->Prop}
noncomputable def tCB (r:List V->Hp->VK->Prop)(t:TA):TE:=λσ H Q=>t σ H λvs H1=>r vs H1 Q
theorem XA (hc:ZJ X (.builtin id) r)(hg:Gl X x)(hm:X.mg x=none)(hv:bootBuiltins x=some (.builtin id))(ha:PA X (e::es) t)(hn:x≠ "__name__":=by decide)(hdb:(x==("__debug__":Str))=false:=by decide)
  (he:starEach (e::es) X.env=(false,eval e X.env)::starEach es X.env:=by rfl)(hpl:(backTo pos (starEach es X.env)).any (·.1)=false:=by rfl):PE X (.Call (.Name x p) (e::es) [] pos) (tCB r t):=by
 intro pins s σ H Q I h
 refine wpAny_Call_Name_kw (Vq I hg hm hv ?_ hn hdb)
 exact PyProof.Rows.callWith_builtin1 (thn (ha pos pins s σ H _ I h) λus s1 r9=>by obtain⟨vs,H1,I1,r1,q1⟩:=r9;exact hc pins s1 σ H1 vs us Q I1 r1 q1) he hpl
theorem Yp (hc:ZJ X (.type T) r)(hg:Gl X x)(hm:X.mg x=none)(hv:bootBuiltins x=some (.type T))(ha:PA X (e::es) t)(hn:x≠ "__name__":=by decide)(hdb:(x==("__debug__":Str))=false:=by decide)
  (he:starEach (e::es) X.env=(false,eval e X.env)::starEach es X.env:=by rfl)(hpl:(backTo pos (starEach es X.env)).any (·.1)=false:=by rfl):PE X (.Call (.Name x p) (e::es) [] pos) (tCB r t):=by
 intro pins s σ H Q I h
 refine wpAny_Call_Name_kw (Vq I hg hm hv ?_ hn hdb)
 exact PyProof.Rows.callWith_type1 (thn (ha pos pins s σ H _ I h) λus s1 r9=>by obtain⟨vs,H1,I1,r1,q1⟩:=r9;exact hc pins s1 σ H1 vs us Q I1 r1 q1) he hpl
end
end L2
namespace HT
open PySem PyProof.Rows
section
open PySem.SeqAt
open PySem.AutoSeq1 (wpAny_loadPart')
open PySem.MeetsSeq PySem.MeetsSeq2 PySem.MeetsSeq3
end
section
variable {prog:Program}{w:World}{A:Around}{E:Value->Shared->Prop}{s:Shared}
noncomputable def sIx (n d:Nat):Option Int->Nat
 |none=>d
 |some v=>if v<0 then(v+(n:Int)).toNat else min v.toNat n
end
end HT
namespace L2
open PySem PySem.Spec PyProof.Rows
noncomputable abbrev TO:=St->Hp->(Option Int->Hp->Prop)->Prop
noncomputable def PO (X:Cx)(e:Option Expr)(t:TO):Prop:=
 ∀(pins:List (Addr×Obj)) (s:Shared) (σ:St) (H:Hp) (Q:Option Int->Hp->Prop),Inv X pins σ H s->t σ H Q->
  wpAny (model X.prog X.w) X.A (evalPart e X.env) (λu s'=>∃ o H',Inv X pins σ H' s'/\IsPart u o/\Q o H') X.xe s
noncomputable def Ft:TO:=λ_ H Q=>Q none H
noncomputable def Lw (t:TE):TO:=λσ H Q=>t σ H λx H1=>∃ i,x= .int i/\Q (some i) H1
section
variable {X:Cx}{e:Expr}{te:TE}{lo hi:Option Expr}{tl th:TO}{pos p2:Pos}
theorem V3:PO X none Ft:=by
 intro pins s σ H Q I h
 rw[evalPart_none]
 exact wpAny_pure ⟨none,H,I, .none,h⟩
theorem QV (h:PE X e te):PO X (some e) (Lw te):=by
 intro pins s σ H Q I hw
 rw[evalPart_some]
 refine thn (h pins s σ H _ I hw) λu s1 r9=>?_
 obtain⟨x,H1,I1,r1,q1⟩:=r9
 obtain⟨i,rfl,q⟩:=q1
 obtain⟨t,rfl⟩:=r1
 exact⟨some i,H1,I1, .int i t,q⟩
noncomputable def SlR (X:Cx)(r:V->Option Int->Option Int->Hp->VK->Prop):Prop:=
 ∀(pins:List (Addr×Obj)) (s:Shared) (σ:St) (H:Hp) (x:V) (v vl vu:Value) (lo hi:Option Int) (sl:Addr) (Q:VK),Inv X pins σ H s->XW x v->s.heap.IsSliceOf sl vl vu .none->IsPart vl lo->IsPart vu hi->r x lo hi H Q->
  ∃T id,typeLookup (.type T) "__getitem__" =pure (some (.builtin id))/\s.TypeIs v T/\wpAny (model X.prog X.w) X.A (getItem v (.ref sl)) (EP X pins σ Q) X.xe s
theorem SlR.or {r r':V->Option Int->Option Int->Hp->VK->Prop}(h:SlR X r)(h':SlR X r'):SlR X (λx lo hi H Q=>r x lo hi H Q∨r' x lo hi H Q):=by
 intro pins s σ H x v vl vu lo hi sl Q I rx hs pl pu q
 rcases q with q |q
 ·exact h pins s σ H x v vl vu lo hi sl Q I rx hs pl pu q
 ·exact h' pins s σ H x v vl vu lo hi sl Q I rx hs pl pu q
noncomputable def tSl (r:V->Option Int->Option Int->Hp->VK->Prop)(te:TE)(tl th:TO):TE:=λσ H Q=>te σ H λx H1=>tl σ H1 λl H2=>th σ H2 λu H3=>r x l u H3 Q
theorem Qs {r:V->Option Int->Option Int->Hp->VK->Prop}(hr:SlR X r)(he:PE X e te)(hl:PO X lo tl)(hu:PO X hi th):PE X (.Subscript e (.Slice lo hi none p2) pos) (tSl r te tl th):=by
 intro pins s σ H Q I h
 refine Subscript_ (thn (he pins s σ H _ I h) λv s1 r9=>?_)
 obtain⟨x,H1,I1,r1,q1⟩:=r9
 refine wpAny_Slice (thn (hl pins s1 σ H1 _ I1 q1) λvl s2 ⟨l,H2,I2,pl,q2⟩=>thn (hu pins s2 σ H2 _ I2 q2) λvu s3 r9=>?_)
 obtain⟨u,H3,I3,pu,q3⟩:=r9
 rw[evalPart_none]
 refine wpAny_pure ?_
 have I4:Inv X pins σ H3 {s3 with heap:=s3.heap.push {cls:=.type "slice",data:=.fields #[vl,vu, .none]}}:=I3.kept (t':=s3.toks) λb ob q=>Heap.get?_push_of_some _ q
 obtain⟨T,id,hT,ht,hg⟩:=hr pins {s3 with heap:=s3.heap.push {cls:=.type "slice",data:=.fields #[vl,vu, .none]}} σ H3 x v vl vu l u s3.heap.objs.size Q I4 r1 (Heap.IsSliceOf.new ..) pl pu q3
 show wpAny (model X.prog X.w) X.A (subscriptTail e (.Slice lo hi none p2) v (.ref s3.heap.objs.size)) (EP X pins σ Q) X.xe {s3 with heap:=s3.heap.push {cls:=.type "slice",data:=.fields #[vl,vu, .none]}}
 exact tail_any (ops:=[.ref s3.heap.objs.size,v]) ht hT hg (by with_unfolding_all rfl)
noncomputable def Ib (xs:List V)(lo hi:Option Int):List V:=(xs.drop (HT.sIx xs.length 0 lo)).take (HT.sIx xs.length xs.length hi-HT.sIx xs.length 0 lo)
theorem KO (xs:List V)(lo hi:Option Int):(Ib xs lo hi).length<=xs.length:=by
 unfold Ib
 rw[List.length_take,List.length_drop]
 omega
end
noncomputable def ixN (n:Nat)(i:Int):Option Nat:=if 0<=i then(if i<n then some i.toNat else none) else if-(n:Int)<=i then some (i+n).toNat else none
noncomputable def atI {α:Type}(xs:List α)(i:Int):Option α:=(ixN xs.length i).bind λj=>xs[j]?
theorem Cq {n:Nat}{i:Int}{j:Nat}(h:ixN n i=some j):seqIndex? i n=some j/\j<n/\ -(n:Int)<=i/\i<n:=by
 unfold ixN at h
 by_cases h0:0<=i
 ·rw[if_pos h0] at h
  by_cases h1:i<n
  ·rw[if_pos h1] at h
   have e:i.toNat=j:=Option.some.inj h
   exact⟨by rw[seqIndex_of h0 h1,e],by omega,by omega,h1⟩
  ·rw[if_neg h1] at h;cases h
 ·rw[if_neg h0] at h
  by_cases h1: -(n:Int)<=i
  ·rw[if_pos h1] at h
   have e:(i+n).toNat=j:=Option.some.inj h
   exact⟨by rw[seqIndex_neg (by omega) h1,e],by omega,h1,by omega⟩
  ·rw[if_neg h1] at h;cases h
theorem Dc {α:Type}{xs:List α}{i:Int}{v:α}(h:atI xs i=some v):∃j,seqIndex? i xs.length=some j/\xs[j]?=some v/\j<xs.length/\ -(xs.length:Int)<=i/\i<xs.length:=by
 unfold atI at h
 cases e:ixN xs.length i with
 |none=>rw[e] at h;cases h
 |some j=>
  rw[e] at h
  obtain⟨h1,h2,h3,h4⟩:=Cq e
  exact⟨j,h1,h,h2,h3,h4⟩
noncomputable def EM (b:Expr):Prop:=∀ o i,subscripted b false o i=operate [o,i] (getItem o i)
noncomputable def IxR (X:Cx)(r:R2):Prop:=
 ∀(value slice:Expr) (pins:List (Addr×Obj)) (s:Shared) (σ:St) (H:Hp) (x y:V) (v u:Value) (Q:VK),Inv X pins σ H s->XW x v->XW y u->r x y H Q->
  subscripted slice false v u=operate [v,u] (getItem v u)->wpAny (model X.prog X.w) X.A (subscriptTail value slice v u) (EP X pins σ Q) X.xe s
noncomputable def MtR (X:Cx)(id:String)(r:V->List V->Hp->VK->Prop):Prop:=
 ∀(pins:List (Addr×Obj)) (s:Shared) (σ:St) (H:Hp) (x:V) (xs:List V) (v:Value) (us:List Value) (Q:VK),Inv X pins σ H s->XW x v->XR xs us->r x xs H Q->
  wpAny (model X.prog X.w) X.A (call (.builtin id) (v::us)) (EP X pins σ Q) X.xe s
section
variable {X:Cx}{a b:Expr}{ta tb:TE}{pos:Pos}
theorem IxR.or {r r':R2}(h:IxR X r)(h':IxR X r'):IxR X (λx y H Q=>r x y H Q∨r' x y H Q):=by
 intro value slice pins s σ H x y v u Q I rx ry q hs
 rcases q with q |q
 ·exact h value slice pins s σ H x y v u Q I rx ry q hs
 ·exact h' value slice pins s σ H x y v u Q I rx ry q hs
theorem MtR.or {id:String}{r r':V->List V->Hp->VK->Prop}(h:MtR X id r)(h':MtR X id r'):MtR X id (λx xs H Q=>r x xs H Q∨r' x xs H Q):=by
 intro pins s σ H x xs v us Q I rx rs q
 rcases q with q |q
 ·exact h pins s σ H x xs v us Q I rx rs q
 ·exact h' pins s σ H x xs v us Q I rx rs q
theorem XJ {r:R2}(hr:IxR X r)(ha:PE X a ta)(hb:PE X b tb)(hs:EM b):PE X (.Subscript a b pos) (tOp r ta tb):=by
 intro pins s σ H Q I h
 exact Subscript_ (Mi ha hb I h λv u s2 x y H2 I2 rx ry q=>hr a b pins s2 σ H2 x y v u Q I2 rx ry q (hs _ _))
noncomputable def IW (K:PySem.W.Frag):R2:=λx y H Q=>∃ p xs i v,x= .ref p/\y= .int i/\SqL K H p xs/\atI xs i=some v/\Q v H
noncomputable def CN (K:PySem.W.Frag):R2:=λx y H Q=>∃ p xs i v,x= .ref p/\y= .int i/\SqT K H p xs/\atI xs i=some v/\Q v H
theorem HM:IxR X (IW X.K):=by
 intro value slice pins s σ H x y v u Q I rx ry h hs
 obtain⟨p,xs,i,z,rfl,rfl,hq,he,q⟩:=h
 cases rx
 obtain⟨t,rfl⟩:=ry
 obtain⟨its,r,pl,hz⟩:=I.list hq
 obtain⟨j,h1,h2,h3,h4,h5⟩:=Dc he
 obtain⟨w,ew,rw'⟩:=r.get h2
 have hl:=r.length
 have hn:=UV
 have fin:EP X pins σ Q w s:=⟨z,H,I,rw',q⟩
 by_cases h0:0<=i
 ·have hj:i.toNat=j:=by
   rw[seqIndex_of h0 h5] at h1
   exact Option.some.inj h1
  exact item_listR pl.isList h0 (by omega) (by rw[hj];simpa using ew) fin hs
 ·have hj:(i+(its.toArray.size:Int)).toNat=j:=by
   rw[seqIndex_neg (by omega) h4] at h1
   rw[List.size_toArray, ←hl]
   exact Option.some.inj h1
  exact subscriptTail_builtinR (x:=w) pl.isList.typeIs slot_list_getitem.lookup
   (wpAny_getItem_list_neg (Q:=λr s'=>r=w/\EP X pins σ Q r s') pl.isList (by omega) (by rw[List.size_toArray]<;> omega) (by omega) (by rw[hj];simpa using ew) ⟨rfl,fin⟩) hs
theorem Lx:IxR X (CN X.K):=by
 intro value slice pins s σ H x y v u Q I rx ry h hs
 obtain⟨p,xs,i,z,rfl,rfl,hq,he,q⟩:=h
 cases rx
 obtain⟨t,rfl⟩:=ry
 obtain⟨its,r,pl,hz⟩:=I.tuple hq
 obtain⟨j,h1,h2,h3,h4,h5⟩:=Dc he
 obtain⟨w,ew,rw'⟩:=r.get h2
 have hl:=r.length
 have hn:=UV
 have fin:EP X pins σ Q w s:=⟨z,H,I,rw',q⟩
 exact subscriptTail_builtinR (x:=w) pl.typeIs slot_tuple_getitem.lookup
  (getItem_tuple (j:=j) (Q:=λr s'=>r=w/\EP X pins σ Q r s') pl (by omega) (by omega) (by rw[List.size_toArray, ←hl];exact h1) (by simpa using ew) ⟨rfl,fin⟩) hs
theorem GW (its:List Value)(n j:Nat)(u:Value):Obj.mapSeq (·.setIfInBounds j u) {cls:=.type "list",data:=.seq its.toArray n}={cls:=.type "list",data:=.seq (its.set j u).toArray n}:=by
 simp[Obj.mapSeq]
theorem Inv.lst {pins:List (Addr×Obj)}{σ:St}{H:Hp}{s:Shared}{p:Addr}{xs:List V}(I:Inv X pins σ H s)(h:H p=some (.lst xs)):
  ∃(its:List Value) (n:Nat),XR xs its/\s.heap.get? p=some {cls:=.type "list",data:=.seq its.toArray n}/\xs.length<=sizeLine:=by
 obtain⟨z,its,n,r,e⟩:=I.hok p _ h
 exact⟨its,n,r,e,z⟩
theorem Inv.lstUpd {pins:List (Addr×Obj)}{σ:St}{H:Hp}{s:Shared}{p:Addr}{xs ys:List V}{its its':List Value}{n n':Nat}{f:Obj->Obj}(I:Inv X pins σ H s)(h:H p=some (.lst xs))
  (ho:s.heap.get? p=some {cls:=.type "list",data:=.seq its.toArray n})(hf:f {cls:=.type "list",data:=.seq its.toArray n}={cls:=.type "list",data:=.seq its'.toArray n'})(r:XR ys its')(hz:ys.length<=sizeLine)(t:Nat):
  Inv X pins σ (upd H p (.lst ys)) {s with heap:=s.heap.update p f,toks:=t}:=by
 have e:(s.heap.update p f).get? p=some {cls:=.type "list",data:=.seq its'.toArray n'}:=by
  rw[Heap.get?_update_self f ho (by rw[hf]<;> rfl),hf]
 refine I.write (x:=p) (e:=p) (by rw[h];trivial) (.inl rfl) (λb u hb q=>(Heap.get?_update_other _ _ (Ne.symm hb)).trans q) ⟨_,e⟩ ?_
 exact⟨hz,its',n',r,e⟩
noncomputable def Lh:V->V->V->Hp->(Hp->Prop)->Prop:=λo i v H Q=>∃ p xs k j,o= .ref p/\i= .int k/\H p=some (.lst xs)/\ixN xs.length k=some j/\Q (upd H p (.lst (xs.set j v)))
theorem CQ:MK X Lh:=by
 intro pins s σ H o i v ov iv u Q I ro ri rv h
 obtain⟨p,xs,k,j,rfl,rfl,hp,hj,q⟩:=h
 cases ro
 obtain⟨t,rfl⟩:=ri
 obtain⟨its,n,r,ho,hz⟩:=I.lst hp
 obtain⟨h1,h2,h3,h4⟩:=Cq hj
 have hl:=r.length
 have hn:=UV
 have I':Inv X pins σ (upd H p (.lst (xs.set j v))) {s with heap:=s.heap.update p (Obj.mapSeq (·.setIfInBounds j u))}:=
  I.lstUpd hp ho (GW its n j u) (r.set rv j) (by rw[List.length_set];exact hz) s.toks
 by_cases h0:0<=k
 ·have hk:k.toNat=j:=by
   rw[seqIndex_of h0 h4] at h1
   exact Option.some.inj h1
  exact PySem.W.ki_setAt ho h0 (by omega) (by rw[List.size_toArray, ←hl];exact h4) (by rw[hk];exact⟨_,I',q⟩)
 ·have hk:(k+(its.toArray.size:Int)).toNat=j:=by
   rw[seqIndex_neg (by omega) h3] at h1
   rw[List.size_toArray, ←hl]
   exact Option.some.inj h1
  exact PySem.W.ki_setBack ho (by omega) (by rw[List.size_toArray, ←hl];exact h3) (by omega) (by rw[hk];exact⟨_,I',q⟩)
theorem UD (lo hi:Option Int)(n:Nat):(sliceBounds lo hi none n).1=((HT.sIx n 0 lo:Nat):Int)/\(sliceBounds lo hi none n).2.1=((HT.sIx n n hi:Nat):Int)/\(sliceBounds lo hi none n).2.2=1:=by
 refine⟨?_,?_,rfl⟩
 ·cases lo with
  |none=>simp[sliceBounds,HT.sIx]
  |some i=>
   simp only[sliceBounds,HT.sIx,Option.getD_none,show(1:Int) > 0 by decide,if_true]
   by_cases h:i<0
   ·simp only[h,if_true]<;> omega
   ·simp only[h,if_false]<;> omega
 ·cases hi with
  |none=>simp[sliceBounds,HT.sIx]
  |some i=>
   simp only[sliceBounds,HT.sIx,Option.getD_none,show(1:Int) > 0 by decide,if_true]
   by_cases h:i<0
   ·simp only[h,if_true]<;> omega
   ·simp only[h,if_false]<;> omega
theorem Ua (its:List Value)(lo hi:Option Int):slicePick its.toArray lo hi none=((its.drop (HT.sIx its.length 0 lo)).take (HT.sIx its.length its.length hi-HT.sIx its.length 0 lo)).toArray:=by
 obtain⟨h1,h2,h3⟩:=UD lo hi its.toArray.size
 unfold slicePick
 rw[h1,h2,h3]
 simp only[sliceRange_one,pick_run,List.size_toArray]<;> rfl
noncomputable def LZ (K:PySem.W.Frag):V->Option Int->Option Int->Hp->VK->Prop:=λx lo hi H Q=>∃ a xs,x= .ref a/\SqL K H a xs/\∀p,H p=none->Q (.ref p) (upd H p (.lst (Ib xs lo hi)))
theorem EZ:SlR X (LZ X.K):=by
 intro pins s σ H x v vl vu lo hi sl Q I rx hs pl pu h
 obtain⟨a,xs,rfl,hx,q⟩:=h
 cases rx
 obtain⟨its,r,ht,hz⟩:=I.list hx
 have hlen:=r.length
 refine⟨"list",_,slot_list_getitem.lookup,ht.isList.typeIs,?_⟩
 refine wpAny_getItem_list_slice ht.isList hs pl pu .none (by simp) ?_ (by rw[List.size_toArray]<;> omega)
 rw[Ua, ←hlen]
 refine⟨.ref s.heap.objs.size,_,I.laid (t':=s.toks) (o:=.lst (Ib xs lo hi)) (λb ob q=>Heap.get?_push_of_some _ q) (Nat.le_refl _) ?_,rfl,q _ (I.hok.fresh (Nat.le_refl _))⟩
 exact⟨Nat.le_trans (KO xs lo hi) hz,_,0,(r.drop (HT.sIx xs.length 0 lo)).take (HT.sIx xs.length xs.length hi-HT.sIx xs.length 0 lo),Heap.get?_push_size _ rfl⟩
noncomputable def Vg:V->Bool
 | .non=>true
 | .bl _=>true
 | .int _=>true
 | .str _=>true
 |_=>false
noncomputable def eqV:V->V->Bool
 | .non, .non=>true
 | .bl a, .bl b=>a==b
 | .bl a, .int b=>(if a then 1 else 0)==b
 | .int a, .bl b=>a==(if b then 1 else 0)
 | .int a, .int b=>a==b
 | .str a, .str b=>a==b
 |_,_=>false
theorem Li {A:Around}{s:Shared}{y x:V}{u v:Value}(ry:XW y u)(rx:XW x v)(fy:Vg y=true)(fx:Vg x=true):SeqAt.EqAt A s u v (eqV y x):=by
 cases y with
 |non=>
  cases ry
  cases x with
  |non=>cases rx;exact SeqAt.EqAt.same _
  |bl b=>cases rx;exact SeqAt.EqAt.none_bool b
  |int b=>obtain⟨t,rfl⟩:=rx;exact SeqAt.EqAt.none_int b t
  |str b=>obtain⟨t,rfl⟩:=rx;exact SeqAt.EqAt.none_str b t
  |_=>exact absurd (show false=true from fx) Bool.false_ne_true
 |bl a=>
  cases ry
  cases x with
  |non=>cases rx;exact SeqAt.EqAt.bool_none a
  |bl b=>cases rx;exact SeqAt.EqAt.bool_bool a b
  |int b=>obtain⟨t,rfl⟩:=rx;exact SeqAt.EqAt.bool_int a b t
  |str b=>obtain⟨t,rfl⟩:=rx;exact SeqAt.EqAt.bool_str a b t
  |_=>exact absurd (show false=true from fx) Bool.false_ne_true
 |int a=>
  obtain⟨t',rfl⟩:=ry
  cases x with
  |non=>cases rx;exact SeqAt.EqAt.int_none a t'
  |bl b=>cases rx;exact SeqAt.EqAt.int_bool a t' b
  |int b=>obtain⟨t,rfl⟩:=rx;exact SeqAt.EqAt.int_int a t' b t
  |str b=>obtain⟨t,rfl⟩:=rx;exact SeqAt.EqAt.int_str a t' b t
  |_=>exact absurd (show false=true from fx) Bool.false_ne_true
 |str a=>
  obtain⟨t',rfl⟩:=ry
  cases x with
  |non=>cases rx;exact SeqAt.EqAt.str_none a t'
  |bl b=>cases rx;exact SeqAt.EqAt.str_bool a t' b
  |int b=>obtain⟨t,rfl⟩:=rx;exact SeqAt.EqAt.str_int a t' b t
  |str b=>obtain⟨t,rfl⟩:=rx;exact SeqAt.EqAt.str_str a t' b t
  |_=>exact absurd (show false=true from fx) Bool.false_ne_true
 |_=>exact absurd (show false=true from fy) Bool.false_ne_true
noncomputable def eqU (x:V)(u:Value):Bool:=match u with
 | .none=>eqV .non x
 | .bool b=>eqV (.bl b) x
 | .int i _=>eqV (.int i) x
 | .str z _=>eqV (.str z) x
 |_=>false
theorem Ee {x y:V}{u:Value}(r:XW y u)(f:Vg y=true):eqU x u=eqV y x:=by
 cases y with
 |non=>cases r;rfl
 |bl b=>cases r;rfl
 |int i=>obtain⟨t,rfl⟩:=r;rfl
 |str z=>obtain⟨t,rfl⟩:=r;rfl
 |_=>exact absurd (show false=true from f) Bool.false_ne_true
theorem Kv {x:V}:∀{xs:List V}{us:List Value},XR xs us->xs.all Vg=true->us.any (eqU x)=xs.any λy=>eqV y x
 |_,_, .nil,_=>rfl
 |y::xs,u::us, .cons r t,f=>by
  rw[List.all_cons,Bool.and_eq_true] at f
  rw[List.any_cons,List.any_cons,Ee r f.1,Kv t f.2]
theorem V9 {A:Around}{s:Shared}{x:V}{v:Value}(rx:XW x v)(fx:Vg x=true):∀{xs:List V}{us:List Value},XR xs us->xs.all Vg=true->∀u∈us,SeqAt.EqAt A s u v (eqU x u)
 |_,_, .nil,_=>λu hu=>by cases hu
 |y::xs,u::us, .cons r t,f=>λu' hu=>by
  rw[List.all_cons,Bool.and_eq_true] at f
  rcases List.mem_cons.mp hu with rfl |hu
  ·rw[Ee r f.1];exact Li r rx f.1 fx
  ·exact V9 rx fx t f.2 u' hu
noncomputable def inV (x:V)(xs:List V):Bool:=xs.any λy=>eqV y x
noncomputable def rIn (K:PySem.W.Frag)(neg:Bool):R2:=λx y H Q=>∃ p xs,y= .ref p/\(SqL K H p xs∨SqT K H p xs)/\Vg x=true/\xs.all Vg=true/\Q (.bl (if neg then !inV x xs else inV x xs)) H
theorem Q3:OpR X (compareOp .NotIn) (rIn X.K true):=by
 intro pins s σ H x y v u Q I rx ry h
 obtain⟨p,xs,rfl,hq,fx,fs,q⟩:=h
 cases ry
 rcases hq with hq |hq
 ·obtain⟨its,r,pl,hz⟩:=I.list hq
  refine SeqAt.notIn_listAt (eqU x) pl.isList (λw hw=>V9 rx fx r fs w (by simpa using hw)) ⟨.bl _,H,I,rfl,?_⟩
  rw[show its.toArray.any (eqU x)=its.any (eqU x) by simp,Kv r fs]
  exact q
 ·obtain⟨its,r,pl,hz⟩:=I.tuple hq
  refine SeqAt.notIn_tupleAt (eqU x) pl (λw hw=>V9 rx fx r fs w (by simpa using hw)) ⟨.bl _,H,I,rfl,?_⟩
  rw[show its.toArray.any (eqU x)=its.any (eqU x) by simp,Kv r fs]
  exact q
theorem UE:ZJ X (.builtin "len") (λxs H Q=>∃ p ys,xs=[.ref p]/\(SqL X.K H p ys∨SqT X.K H p ys)/\Q (.int ys.length) H):=by
 intro pins s σ H xs us Q I r h
 obtain⟨p,ys,rfl,hq,q⟩:=h
 obtain⟨u,rfl,rx⟩:=Ky r
 cases rx
 have hn:=UV
 rcases hq with hq |hq
 ·obtain⟨its,r',pl,hz⟩:=I.list hq
  have hlen:=r'.length
  exact Calls.call_len_list pl.isList (by simp only[List.size_toArray]<;> omega) ⟨.int ys.length,H,I.tok _,⟨s.toks+1,by rw[List.size_toArray,hlen]⟩,q⟩
 ·obtain⟨its,r',pl,hz⟩:=I.tuple hq
  have hlen:=r'.length
  exact len_tuple pl (by simp only[List.size_toArray]<;> omega) ⟨.int ys.length,H,I.tok _,⟨s.toks+1,by rw[List.size_toArray,hlen]⟩,q⟩
theorem UT:ZJ X (.builtin "len") (λxs H Q=>∃ z,xs=[.str z]/\z.length<=sizeLine/\Q (.int z.length) H):=by
 intro pins s σ H xs us Q I r h
 obtain⟨z,rfl,hz,q⟩:=h
 obtain⟨u,rfl,t,rfl⟩:=Ky r
 have hn:=UV
 exact len_str (by omega) ⟨.int z.length,H,I.tok _,⟨_,rfl⟩,q⟩
theorem ZJ.or {f:Value}{r r':List V->Hp->VK->Prop}(h:ZJ X f r)(h':ZJ X f r'):ZJ X f (λxs H Q=>r xs H Q∨r' xs H Q):=by
 intro pins s σ H xs us Q I rs q
 rcases q with q |q
 ·exact h pins s σ H xs us Q I rs q
 ·exact h' pins s σ H xs us Q I rs q
theorem U4:ZJ X (.type "list") (λxs H Q=>∃ p ys,xs=[.ref p]/\(SqL X.K H p ys∨SqT X.K H p ys)/\∀l,H l=none->Q (.ref l) (upd H l (.lst ys))):=by
 intro pins s σ H xs us Q I r h
 obtain⟨p,ys,rfl,hq,q⟩:=h
 obtain⟨u,rfl,rx⟩:=Ky r
 cases rx
 have fin:∀(its:List Value),XR ys its->ys.length<=sizeLine->∀(h':Heap) (c':Nat),(∀b o',s.heap.get? b=some o'->h'.get? b=some o')->
   h'.get? s.heap.objs.size=some {cls:=.type "list",dict:=none,data:=.seq its.toArray c',slots:=#[]}->EP X pins σ Q (.ref s.heap.objs.size) {s with heap:=h'}:=λits r' hz h' c' kp e=>
  ⟨.ref s.heap.objs.size,_,I.laid (t':=s.toks) kp (Nat.le_refl _) (show Ym X.prog X.w _ h' _ (.lst ys) from⟨hz,its,c',r',e⟩),rfl,q _ (I.hok.fresh (Nat.le_refl _))⟩
 rcases hq with hq |hq
 ·obtain⟨its,r',pl,hz⟩:=I.list hq
  have hlen:=r'.length
  obtain⟨o,ho,hc,n,hd⟩:=pl.isList
  exact call_list_seq p (.inl rfl) ho hc hd (λh' c' kp e=>fin its r' hz h' c' kp e) (by simp only[List.size_toArray]<;> omega)
 ·obtain⟨its,r',pl,hz⟩:=I.tuple hq
  have hlen:=r'.length
  obtain⟨o,ho,hc,n,hd⟩:=pl
  exact call_list_seq p (.inr rfl) ho hc hd (λh' c' kp e=>fin its r' hz h' c' kp e) (by simp only[List.size_toArray]<;> omega)
noncomputable def tyV (K:PySem.W.Frag)(T:String)(x:V)(H:Hp):Prop:=match x with
 | .str _=>T= "str"
 | .int _=>T= "int"
 | .ref p=>(T= "list" /\∃xs,SqL K H p xs)∨(T= "tuple" /\∃o,K.lookup p=some o/\o.cls= .type "tuple" /\o.dict=none)∨
   (T= "dict" /\((∃kvs,H p=some (.dK kvs))∨∃kvs,H p=some (.dT kvs)))∨(T= "set" /\∃S n,H p=some (.set S n))
 |_=>False
theorem Ep {pins:List (Addr×Obj)}{σ:St}{H:Hp}{s:Shared}{T:String}{x:V}{v:Value}(I:Inv X pins σ H s)(r:XW x v)(ty:tyV X.K T x H):
  s.TypeIs v T/\∀a,v= .ref a->∃ob,s.heap.get? a=some ob/\ob.dict=none:=by
 cases x with
 |str z=>
  obtain⟨t,rfl⟩:=r
  cases(show T= "str" from ty)
  exact⟨typeIs_str s z t,λ_ e=>nomatch e⟩
 |int i=>
  obtain⟨t,rfl⟩:=r
  cases(show T= "int" from ty)
  exact⟨typeIs_int s i t,λ_ e=>nomatch e⟩
 |ref p=>
  cases r
  rcases ty with⟨rfl,xs,hq⟩ | ⟨rfl,o,hk,hc,hd⟩ | ⟨rfl,hk⟩ | ⟨rfl,S,n,hk⟩
  ·obtain⟨its,_,pl,_⟩:=I.list hq
   refine⟨pl.isList.typeIs,λa e=>?_⟩
   cases e
   obtain⟨o,n,e,c,hd,_⟩:=pl
   exact⟨o,e,hd⟩
  ·refine⟨⟨o,I.kIn p o hk,hc⟩,λa e=>?_⟩
   cases e
   exact⟨o,I.kIn _ o hk,hd⟩
  ·have z:∃o,s.heap.get? p=some o/\o.ExactDict:=by
    rcases hk with⟨kvs,hk⟩ | ⟨kvs,hk⟩
    ·obtain⟨_,_,_,_,o,_,_,e,ex,_⟩:=I.hok p _ hk
     exact⟨o,e,ex⟩
    ·obtain⟨_,_,_,_,o,_,_,e,ex,_⟩:=I.hok p _ hk
     exact⟨o,e,ex⟩
   obtain⟨o,e,ex⟩:=z
   refine⟨⟨o,e,ex.1⟩,λa e2=>?_⟩
   cases e2
   exact⟨o,e,ex.2.1⟩
  ·obtain⟨o,_,_,_,e,ex,_⟩:=I.hok p _ hk
   refine⟨⟨o,e,ex.1⟩,λa e2=>?_⟩
   cases e2
   exact⟨o,e,ex.2.1⟩
 |_=>exact False.elim ty
noncomputable def MO (K:PySem.W.Frag)(T:String)(r:V->List V->Hp->VK->Prop)(to:TE):TE:=λσ H Q=>to σ H λx H1=>tyV K T x H1/\r x [] H1 Q
noncomputable def tBM (K:PySem.W.Frag)(T:String)(r:V->List V->Hp->VK->Prop)(to:TE)(t:TA):TE:=λσ H Q=>to σ H λx H1=>tyV K T x H1/\t σ H1 λxs H2=>r x xs H2 Q
variable {o e:Expr}{es:List Expr}{to:TE}{t:TA}{name:Str}{apos cpos:Pos}{T id:String}{r:V->List V->Hp->VK->Prop}
theorem Ld (pa:PlainAttrs T)(slot:Slot T name id)(hty:typeOf (.builtin id)=pure (.type "method_descriptor"))(hm:MtR X id r)(ho:PE X o to)
  (hbase:attributeBase o name X.env (eval o X.env)=eval o X.env:=by rfl)(hline:(apos.endLine==cpos.line)=true:=by rfl):PE X (.Call (.Attribute o name apos) [] [] cpos) (MO X.K T r to):=by
 intro pins s σ H Q I h
 refine wpAny_Call_method0_late hbase hline (thn (ho pins s σ H _ I h) λv s1 r9=>?_)
 obtain⟨x,H1,I1,r1,ty,q1⟩:=r9
 obtain⟨h1,h2⟩:=Ep I1 r1 ty
 exact⟨T,id,pa,slot,hty,h1,h2,Calls.callWith_builtin rfl (PySem.evalArgs_none (hm pins s1 σ H1 x [] v [] Q I1 r1 .nil q1))⟩
theorem YX (pa:PlainAttrs T)(slot:Slot T name id)(hty:typeOf (.builtin id)=pure (.type "method_descriptor"))(hm:MtR X id r)(ho:PE X o to)(ha:PA X (e::es) t)
  (hbase:attributeBase o name X.env (eval o X.env)=eval o X.env:=by rfl)
  (hfew:((backTo cpos (starEach (e::es) X.env)).all (λx=>!x.1)&&(backToKw cpos (keywordEach [] X.env)).all (λx=>x.1.isSome)
   &&decide ((e::es).length+([]:List Keyword).length+(if([]:List Keyword).isEmpty then 0 else 1)<30))=true:=by rfl)
  (hline:(apos.endLine==cpos.line)=true:=by rfl)(hs:starEach (e::es) X.env=(false,eval e X.env)::starEach es X.env:=by rfl)(hplain:(backTo cpos (starEach es X.env)).any (·.1)=false:=by rfl):
  PE X (.Call (.Attribute o name apos) (e::es) [] cpos) (tBM X.K T r to t):=by
 intro pins s σ H Q I h
 refine wpAny_Call_method_late hbase hfew hline rfl (thn (ho pins s σ H _ I h) λv s1 r9=>?_)
 obtain⟨x,H1,I1,r1,ty,q1⟩:=r9
 obtain⟨h1,h2⟩:=Ep I1 r1 ty
 refine⟨T,id,pa,slot,hty,h1,h2,?_⟩
 have hA:=ha cpos pins s1 σ H1 _ I1 q1
 rw[hs] at hA⊢
 refine Calls.callWith_builtin (by show(false || (backTo cpos (starEach es X.env)).any (·.1))=false;rw[hplain]<;> rfl) (Calls.evalArgs_plain ?_)
 exact thn hA λus s2 r9=>by obtain⟨vs,H2,I2,r2,q2⟩:=r9;exact hm pins s2 σ H2 x vs v us Q I2 r1 r2 q2
/- xs.append(e), list.index on a module's tuple .. are MtR facts of 06m -/
end
noncomputable def MtM (X:Cx)(id:String)(r:V->List V->Hp->VK->Prop):Prop:=
 ∀(pins:List (Addr×Obj)) (s:Shared) (σ:St) (H:Hp) (x:V) (xs:List V) (v:Value) (us:List Value) (Q:VK),Inv X pins σ H s->XW x v->XR xs us->r x xs H Q->
  wpAny (model X.prog X.w) X.A (call (.builtin id) (v::us)) (EP X pins σ Q) X.xe s
theorem XR.one:∀{x:V}{us:List Value},XR [x] us->∃u,us=[u]/\XW x u:=fun {x us} h=>by
 cases h with
 |cons r t=>
  cases t
  exact⟨_,rfl,r⟩
theorem XR.two:∀{x y:V}{us:List Value},XR [x,y] us->∃u v,us=[u,v]/\XW x u/\XW y v:=fun {x y us} h=>by
 cases h with
 |cons r t=>
  cases t with
  |cons q t=>
   cases t
   exact⟨_,_,rfl,r,q⟩
theorem XR.zero:∀{us:List Value},XR [] us->us=[]
 |_, .nil=>rfl
theorem XR.dropLast {xs:List V}{us:List Value}(h:XR xs us):XR xs.dropLast us.dropLast:=by
 induction h with
 |nil=>exact .nil
 |cons r t ih=>
  cases t with
  |nil=>exact .nil
  |cons q t'=>exact .cons r ih
theorem XR.eraseIdx:∀{xs:List V}{us:List Value} (i:Nat),XR xs us->XR (xs.eraseIdx i) (us.eraseIdx i)
 |_,_,_, .nil=>.nil
 |_,_,0, .cons _ t=>t
 |_,_,i+1, .cons r t=>.cons r (XR.eraseIdx i t)
theorem XR.reverse {xs:List V}{us:List Value}(h:XR xs us):XR xs.reverse us.reverse:=by
 induction h with
 |nil=>exact .nil
 |cons r t ih=>rw[List.reverse_cons,List.reverse_cons];exact XR.append ih (.cons r .nil)
theorem XR.rep {xs:List V}{us:List Value}(h:XR xs us):∀k:Nat,XR (List.replicate k xs).flatten (List.replicate k us).flatten
 |0=>.nil
 |k+1=>by
  rw[List.replicate_succ,List.replicate_succ,List.flatten_cons,List.flatten_cons]
  exact XR.append h (XR.rep h k)
theorem UR {α:Type}:∀(l:List α) (i:Nat),(l.eraseIdx i).length<=l.length
 | [],_=>Nat.le_refl _
 |_::_,0=>Nat.le_succ _
 |_::r,i+1=>Nat.succ_le_succ (UR r i)
theorem Kg (its:List Value):∀(k:Nat) (acc:List Value),
  List.foldl (λx1 x2=>x1++x2) acc.toArray (List.replicate k its.toArray)=(acc++(List.replicate k its).flatten).toArray
 |0,acc=>by simp
 |k+1,acc=>by
  have e:acc.toArray++its.toArray=(acc++its).toArray:=by simp
  have e2:(acc++its)++(List.replicate k its).flatten=acc++(List.replicate (k+1) its).flatten:=by
   rw[List.replicate_succ,List.flatten_cons,List.append_assoc]
  rw[←e2, ←Kg its k (acc++its), ←e,List.replicate_succ,List.foldl_cons]
section
variable {X:Cx}{pins:List (Addr×Obj)}{σ:St}{H:Hp}{s:Shared}{l b:Addr}{xs ys zs:List V}
theorem Inv.lset {its its':List Value}{n:Nat}{f:Array Value->Array Value}{t':Nat}(I:Inv X pins σ H s)(hH:H l=some (.lst xs))
  (e:s.heap.get? l=some {cls:=.type "list",data:=.seq its.toArray n})(hf:f its.toArray=its'.toArray)(hv:XR ys its')(hz:ys.length<=sizeLine):
  Inv X pins σ (upd H l (.lst ys)) {s with heap:=s.heap.update l (Obj.mapSeq f),toks:=t'}:=by
 have q:=PySem.IsL.update e f
 rw[hf] at q
 refine I.write (x:=l) (e:=l) (by rw[hH];exact trivial) (.inl rfl) (λb' u hb hu=>(Heap.get?_update_other s.heap (Obj.mapSeq f) (Ne.symm hb)).trans hu) ⟨_,q⟩ ?_
 exact⟨hz,its',_,hv,q⟩
theorem Inv.lnew {its:List Value}{t':Nat}(I:Inv X pins σ H s)(hv:XR ys its)(hz:ys.length<=sizeLine):
  Inv X pins σ (upd H s.heap.objs.size (.lst ys)) {s with heap:=s.heap.push {cls:=.type "list",data:=.seq its.toArray},toks:=t'}:=
 I.laid (λ_ _ q=>Heap.get?_push_of_some _ q) (Nat.le_refl _) ⟨hz,its,0,hv,Heap.get?_push_size _ rfl⟩
theorem Inv.fresh (I:Inv X pins σ H s):H s.heap.objs.size=none:=I.hok.fresh (Nat.le_refl _)
theorem Inv.lstM (I:Inv X pins σ H s)(hH:H l=some (.lst xs)):xs.length<=sizeLine/\∃(its:List Value) (n:Nat),XR xs its/\xs.length=its.length/\s.heap.get? l=some {cls:=.type "list",data:=.seq its.toArray n}:=by
 obtain⟨z,its,n,r,e⟩:=I.hok l _ hH
 exact⟨z,its,n,r,r.length,e⟩
theorem K4 {n:Nat}(h:n<=sizeLine):Builtin.List.listTooLong n=false:=by
 unfold Builtin.List.listTooLong
 exact decide_eq_false (by omega)
end
section
variable {X:Cx}
noncomputable def QT:V->List V->Hp->VK->Prop:=λx vs H Q=>∃ l xs y,x= .ref l/\vs=[y]/\H l=some (.lst xs)/\xs.length<sizeLine/\Q .non (upd H l (.lst (xs++[y])))
theorem XH:MtM X "list.append" QT:=by
 intro pins s σ H x vs v us Q I rx rv h
 obtain⟨l,xs,y,rfl,rfl,hH,hz,q⟩:=h
 cases rx
 obtain⟨u,rfl,ru⟩:=rv.one
 obtain⟨z,its,n,r,hl,e⟩:=I.lstM hH
 refine call_meets F.slot_list_append ⟨_,e,rfl⟩ F.entry_list_append (F.args_list_append_2 _ _) (PySem.list_append l its.toArray n u (by rw[List.size_toArray];omega)) ⟨e,?_⟩
 refine⟨.non,_,I.lset (its':=its++[u]) hH e (by simp) (r.append (.cons ru .nil)) ?_,rfl,q⟩
 rw[List.length_append,List.length_singleton]
 omega
noncomputable def Fw:V->List V->Hp->VK->Prop:=λx vs H Q=>∃ l b xs zs,x= .ref l/\vs=[.ref b]/\H l=some (.lst xs)/\H b=some (.lst zs)/\xs.length+zs.length<=sizeLine/\Q .non (upd H l (.lst (xs++zs)))
theorem Km:MtM X "list.extend" Fw:=by
 intro pins s σ H x vs v us Q I rx rv h
 obtain⟨l,b,xs,zs,rfl,rfl,hH,hB,hz,q⟩:=h
 cases rx
 obtain⟨u,rfl,ru⟩:=rv.one
 cases ru
 obtain⟨z,its,n,r,hl,e⟩:=I.lstM hH
 obtain⟨z2,its2,n2,r2,hl2,e2⟩:=I.lstM hB
 have hsz:its.toArray.size+its2.toArray.size<=sizeLine:=by rw[List.size_toArray,List.size_toArray];omega
 have hlong:¬(!its.toArray.isEmpty&&Builtin.List.listTooLong (its.toArray.size+its2.toArray.size))=true:=by
  rw[K4 hsz,Bool.and_false]
  exact Bool.false_ne_true
 refine call_meets F.slot_list_extend ⟨_,e,rfl⟩ F.entry_list_extend (F.args_list_extend_2 _ _)
  (AutoSeq1.list_extend_list_list_0 l its.toArray n b its2.toArray n2 hlong (by rw[List.size_toArray];omega) (by omega)) ⟨e,e2,?_⟩
 refine⟨.non,_,I.lset (its':=its++its2) hH e (by simp) (r.append r2) ?_,rfl,q⟩
 rw[List.length_append]
 omega
noncomputable def Gc:V->List V->Hp->VK->Prop:=λx vs H Q=>∃ l xs i k y,x= .ref l/\vs=[.int i]/\H l=some (.lst xs)/\ -(2^63)<=i/\i<2^63/\seqIndex? i xs.length=some k/\xs[k]?=some y/\Q y (upd H l (.lst (xs.eraseIdx k)))
theorem Gm:MtM X "list.pop" Gc:=by
 intro pins s σ H x vs v us Q I rx rv h
 obtain⟨l,xs,i,k,y,rfl,rfl,hH,h1,h2,hk,hy,q⟩:=h
 cases rx
 obtain⟨u,rfl,ru⟩:=rv.one
 obtain⟨t,rfl⟩:=ru
 obtain⟨z,its,n,r,hl,e⟩:=I.lstM hH
 obtain⟨w,hw,rw'⟩:=r.get hy
 refine call_meets F.slot_list_pop ⟨_,e,rfl⟩ F.entry_list_pop (F.args_list_pop_2 _ _)
  (MeetsSeq.list_pop_at l its.toArray n i t k w (fitsIndex_both h1 h2) (by rw[List.size_toArray, ←hl];exact hk) (by rw[←Array.getElem?_toList];exact hw) (by rw[List.size_toArray];omega)) ⟨e,?_⟩
 refine⟨y,_,I.lset (its':=its.eraseIdx k) hH e ?_ (r.eraseIdx k) ?_,rw',q⟩
 ·show its.toArray.eraseIdxIfInBounds k=(its.eraseIdx k).toArray
  rw[List.eraseIdxIfInBounds_toArray]
 ·have:=UR xs k
  omega
noncomputable def MQ:R2:=λx y H Q=>∃ l b xs zs,x= .ref l/\y= .ref b/\H l=some (.lst xs)/\H b=some (.lst zs)/\xs.length+zs.length<=sizeLine/\∀p,H p=none->Q (.ref p) (upd H p (.lst (xs++zs)))
theorem BX:OpR X (binaryOp .Add) MQ:=by
 intro pins s σ H x y v u Q I rx ry h
 obtain⟨l,b,xs,zs,rfl,rfl,hH,hB,hz,q⟩:=h
 cases rx
 cases ry
 obtain⟨z,its,n,r,hl,e⟩:=I.lstM hH
 obtain⟨z2,its2,n2,r2,hl2,e2⟩:=I.lstM hB
 refine PySem.P.add_list e e2 ?_ (by rw[List.size_toArray,List.size_toArray];omega)
 have ea:its.toArray++its2.toArray=(its++its2).toArray:=by simp
 rw[ea]
 exact⟨.ref _,_,I.lnew (t':=s.toks) (r.append r2) (by rw[List.length_append];omega),rfl,q _ I.fresh⟩
noncomputable def MH:R2:=λx y H Q=>∃ l k xs,x= .ref l/\y= .int k/\H l=some (.lst xs)/\ -(2^63)<=k/\k<2^63/\xs.length*k.toNat<=sizeLine/\
 ∀p,H p=none->Q (.ref p) (upd H p (.lst (List.replicate k.toNat xs).flatten))
theorem HV {α:Type}(xs:List α)(k:Nat):(List.replicate k xs).flatten.length=k*xs.length:=by
 induction k with
 |zero=>simp
 |succ k ih=>rw[List.replicate_succ,List.flatten_cons,List.length_append,ih,Nat.succ_mul,Nat.add_comm]
theorem Eg:OpR X (binaryOp .Mult) MH:=by
 intro pins s σ H x y v u Q I rx ry h
 obtain⟨l,k,xs,rfl,rfl,hH,h1,h2,hz,q⟩:=h
 cases rx
 obtain⟨t,rfl⟩:=ry
 obtain⟨z,its,n,r,hl,e⟩:=I.lstM hH
 have hlen:its.toArray.size*k.toNat<=sizeLine:=by rw[List.size_toArray, ←hl];exact hz
 have hcap:¬its.toArray.size*k.toNat > (2^63-1)/8:=by
  have:(sizeLine:Nat)<=(2^63-1)/8:=by decide
  omega
 have hfit:¬(!Builtin.List.listFitsIndex k)=true:=by
  rw[fitsIndex_both h1 h2]
  exact Bool.false_ne_true
 have hlong:¬Builtin.List.listTooLong (its.toArray.size*k.toNat)=true:=by
  rw[K4 hlen]
  exact Bool.false_ne_true
 have hnew:List.foldl (λx1 x2=>x1++x2) #[] (List.replicate (if its.toArray.isEmpty=true then 0 else k.toNat) its.toArray)=(List.replicate k.toNat its).flatten.toArray:=by
  have f0:∀m:Nat,List.foldl (λx1 x2=>x1++x2) #[] (List.replicate m its.toArray)=(List.replicate m its).flatten.toArray:=λm=>by
   have:=Kg its m []
   rw[List.nil_append] at this
   exact this
  rw[f0]
  cases its with
  |nil=>simp
  |cons a r'=>rw[if_neg (by simp)]
 refine wpAny_binaryOp_repeat_ref (T:="list") (U:="int") (by decide) ⟨_,e,rfl⟩ (λs'=>typeIs_int s' k t) noFill_list_mul F.fills_int_mul F.slot_int_rmul repeat_list F.slot_int_index.lookup
  (call_meets F.slot_int_rmul (typeIs_int s k t) F.entry_int_rmul (F.args_int_rmul_2 _ _) (int___rmul___int_list k t l its.toArray n)
   ⟨e,rfl,⟨_,e,rfl⟩,call_meets F.slot_list_mul ⟨_,e,rfl⟩ F.entry_list_mul (F.args_list_mul_2 _ _) (AutoListH.list___mul___list_int_3 l its.toArray n k t hfit hcap hlong) ⟨e,?_⟩⟩)
 rw[hnew]
 exact⟨.ref _,_,I.lnew (t':=s.toks) (r.rep k.toNat) (by rw[HV,Nat.mul_comm];exact hz),rfl,q _ I.fresh⟩
end
section
variable {prog:Program}{w:World}{A:Around}{E:Value->Shared->Prop}{s:Shared}
end
section
variable {X:Cx}
end
end L2
namespace Att
open PySem PySem.W PySem.Calls PyProof.Rows
theorem JV {P:Params}{h:Heap}:∀(ns:List Int) (vs:List Value),WellAll P h vs (ns.map WData.int)->IntsAre vs ns:=by
 intro ns
 induction ns with
 |nil=>
  intro vs w
  rw[List.map_nil] at w
  cases w
  exact .nil
 |cons n ns ih=>
  intro vs w
  rw[List.map_cons] at w
  cases w with
  |cons a b=>
   cases a
   exact .cons _ _ (ih _ b)
theorem Cy {l:OpenLaw}{n:Nat}(hn:l.most=some n){P:Params}{h:Heap}{args:List WData}{vals:List Value}
  (hpre:l.row.toRowW.claim.pre args=true)(hwl:WellAll P h vals args):
  ∃a vs ns,vals=[Value.ref a]/\args=[WData.list (ns.map WData.int)]/\h.get? a=some {cls:=.type "list",data:=.seq vs.toArray}/\IntsAre vs ns/\ns.length<=n:=by
 have hsh:WShape.hasAll [] args [.list .int]=true:=(pre_splitW hpre).1
 have hc:l.pre.holds [] {args:=args}=true:=(pre_splitW hpre).2
 obtain⟨d,r,rfl,h1,h2⟩:=hasAllW_cons hsh
 obtain rfl:=hasAllW_nil h2
 obtain⟨xs,rfl,h3⟩:=hasW_list h1
 obtain⟨ns,rfl⟩:=items_int h3
 have hlen:ns.length<=n:=by
  unfold OpenLaw.pre at hc
  have h4:(WTm.not (.lt (.lit (.int (n:Int))) (.len (.arg 0)))).holds [] {args:=[.list (ns.map .int)]}=true:=by
   have h4:=(holds_andW hc).1
   rw[hn] at h4
   exact h4
  have h5:=condW_of h4 (w_not (w_lt w_lit (w_len_list (w_arg rfl))))
  rw[List.length_map] at h5
  refine Nat.le_of_not_lt λq=>?_
  have q':(n:Int)<((ns.length:Nat):Int):=by omega
  first
   | (rw[decide_eq_true q'] at h5;exact absurd h5 (by decide))
   | (simp at h5;omega)
 cases hwl with
 |cons w1 w2=>
  cases w2
  cases w1 with
  |list ho hall=>exact⟨_,_,ns,rfl,rfl,ho,JV ns _ hall,hlen⟩
theorem Dz (l:OpenLaw)(args:List WData):l.row.toRowW.claim.post args (.bool true) args=true:=
 postW_of (r:=l.row.toRowW) (X:=(true==true))
  (show WShape.has [] (.bool true) .bool=true by first |rfl |decide |simp[WShape.has,WShape.arms,WShape.armsAll])
  (show(WTm.eq .res (.lit (.bool true))).value [] {args:=args,res:=some (.bool true),after:=args}=some (.bool (true==true)) from w_eq_bool (w_res rfl) w_lit) rfl
theorem attach_call {l:OpenLaw}{n:Nat}{q:Program}{loose:List Str}{XP:(Str->Option Value)->Heap->Prop}{YP:World->Heap->Prop}{d:DefRec}
  (hn:l.most=some n)(hdf:d.params.defaults=[])
  (call:∀(w:World) (s₀ s₁:Shared) (mg mb:Str->Option Value) (fa:Addr) (o:Obj) (pm cd doc:Value) (a:Addr) (vs:List Value) (ns:List Int),
   Ground q loose [] XP w s₀ mg mb s₁.heap->YP w s₁.heap->
   s₁.heap.get? fa=some o->o.data= .func (docDef d.name d.params d.body d.scope pm cd doc)->s₁.heap.CodeRec cd d.name->mg d.name=some (.ref fa)->
   s₁.heap.get? a=some {cls:=.type "list",data:=.seq vs.toArray}->IntsAre vs ns->ns.length<=n->s₁.gens= #[]->
   codeAny (model l.prog w) callerA (.call (.ref fa) ⟨[.ref a],[]⟩) (λr s'=>r= .ok (.ret (.bool true))/\OldK s₁.heap s'.heap/\s'.os=s₁.os/\AllBare s'.gens) s₁):
  WalkO q loose XP YP l.row.toRowW d [] (λf vs=>PySem.call f vs):=by
 intro w s₀ s₁ mg mb G Y fa o pm cd doc dV kV ho hd hcd hD hmg hg args vals as hpre hlay hrd hwl hlo
 obtain rfl:dV= .none:=Dflts.none hD hdf
 obtain rfl:kV= .none:=Dflts.noKw hD
 obtain⟨a,vs,ns,rfl,rfl,hobj,hints,hlen⟩:=Cy hn hpre hwl
 refine enter_call (codeAny_mono (call w s₀ s₁ mg mb fa o pm cd doc a vs ns G Y ho (fd_plain hd) hcd hmg hobj hints hlen hg) λr s' hq=>?_)
 obtain⟨rfl,h2,h3,h4⟩:=hq
 exact⟨.inl ⟨.bool true, .bool true,[],rfl,λ_=>rfl, .bool true,Dz l _,λ_=>⟨List.Pairwise.nil,λ_ hm=>(nomatch hm)⟩⟩,h2,h3,h4⟩
section
variable {prog:Program}{w:World}{A:Around}{E:Value->Shared->Prop}{s:Shared}{K:Frag}
noncomputable def ML (h:Heap)(L d:Addr):List (Addr×Obj):=(List.range h.objs.size).filterMap λa=>if a=L∨a=d then none else(h.get? a).map λo=>(a,o)
end
end Att
namespace L2
open PySem PySem.Spec PyProof.Rows
theorem DR:∀{vs:List Value}{ns:List Int},IntsAre vs ns->XR (ns.map V.int) vs:=λp=>by
 induction p with
 |nil=>exact .nil
 |cons n t _ ih=>exact .cons ⟨t,rfl⟩ ih
noncomputable def Mc (H:Hp):Prop:=∀ b,H b=none∨∃o xs,H b=some (.frz o (.lst xs))
theorem BR {P:Program}{w:World}{K:PySem.W.Frag}{mg mb:Str->Option Value}{CX:CXT}{k:Nat}{fa a:Addr}{fd:FuncData}{x:Str}{sp:Sp}{s₁:Shared}{vs:List Value}{ns:List Int}
  (KX:K.In s₁.heap)(hns:s₁.heap.Ns mainGlobals mg)(hb:s₁.heap.Ns builtinsNs mb)(hbb:∀x:Str,x≠ "__name__" ->mb x=bootBuiltins x)(hlim:s₁.heap.NoLimit)(hg:s₁.gens= #[])
  (ha:s₁.heap.get? a=some {cls:=.type "list",data:=.seq vs.toArray})(hi:IntsAre vs ns)(hl:ns.length<=sizeLine)(hr:Room k callerA)
  (F:∀base:Heap,K.In base->base.Ns mainGlobals mg->FnOk P w K mg base CX k fa fd [x] sp)(hbind:∀(s:Shared) (u:Value),BindsTo s fd ⟨[u],[]⟩ [(x,u)])
  (hsp:∀H:Hp,Mc H->SqL K H a (ns.map V.int)->sp [.ref a] H (λv _=>v= .bl true) λ_ _ _=>False)
  (hCX:∀H e s',CX [] H s₁ (λ_ _ _=>False) e s'->False):
  codeAny (model P w) callerA (.call (.ref fa) ⟨[.ref a],[]⟩) (λr s'=>r= .ok (.ret (.bool true))/\OldK s₁.heap s'.heap/\s'.os=s₁.os/\AllBare s'.gens) s₁:=by
 have rv:=DR hi
 have lenV:=hi.length
 -- from an abstract heap in which nothing but the script may be tracked
 have core:∀H:Hp,Mc H->SqL K H a (ns.map V.int)->HOk P w H s₁.heap->(∀b,H b≠none->b=a)->(H a≠none->K.lookup a=none)->
   codeAny (model P w) callerA (.call (.ref fa) ⟨[.ref a],[]⟩) (λr s'=>r= .ok (.ret (.bool true))/\OldK s₁.heap s'.heap/\s'.os=s₁.os/\AllBare s'.gens) s₁:=by
  intro H hO hS hok hA hK
  have base_of:∀{b:Addr}{o:Obj},s₁.heap.get? b=some o->H b=none->(CM s₁.heap H).get? b=some o:=λe n=>GH e n
  have noA:∀{b:Addr}{o:Obj}{es:Array DictEntry}{ep:Nat},s₁.heap.get? b=some o->o.data= .dict es ep->H b=none:=fun {b o es ep} e d=>by
   cases q:H b with
   |none=>rfl
   |some u=>
    have e':b=a:=hA b (by rw[q];simp)
    subst e'
    rw[ha] at e;cases e
    have d':Data.seq vs.toArray _=Data.dict es ep:=d
    cases d'
  have nsK:∀{b:Addr}{m:Str->Option Value},s₁.heap.Ns b m->(CM s₁.heap H).Ns b m:=fun {b m} ⟨o,es,ep,e,d,r⟩=>⟨o,es,ep,base_of e (noA e d),d,r⟩
  have hKb:K.In (CM s₁.heap H):=λb o e=>base_of (KX b o e) (by
   cases q:H b with
   |none=>rfl
   |some u=>
    have e':b=a:=hA b (by rw[q];simp)
    subst e'
    rw[hK (by rw[q];simp)] at e;cases e)
  have hM:Mod K mg (CM s₁.heap H):=⟨hKb,nsK hns,⟨mb,nsK hb,hbb⟩,let ⟨mc,h1,h2⟩:=hlim;⟨mc,nsK h1,h2⟩⟩
  have e0:Env0 P w K mg (CM s₁.heap H) callerA [] s₁ H:=⟨rfl,hM,λb o e=>F7 e,Nat.le_of_eq (DE _ _),trivial,λb hb=>absurd (show b∈([]:List Addr) from hb) (by simp),hok, .of_eq hg⟩
  refine codeAny_mono ((F _ hKb (nsK hns)).run callerA [] s₁ H ⟨[.ref a],[]⟩ [.ref a] [.ref a] _ _ hr e0 (hbind s₁ (.ref a)) (.cons rfl .nil) (hsp H hO hS)) λr s' h=>?_
  cases r with
  |error e=>exact(hCX H e s' h).elim
  |ok fl=>
   cases fl with
   |next=>exact False.elim h
   |brk=>exact False.elim h
   |cont=>exact False.elim h
   |ret u=>
    obtain⟨v,H',os,bare,un,hok',r',q⟩:=h
    have q':v= .bl true:=q
    subst q'
    obtain rfl:u=Value.bool true:=r'
    refine⟨rfl,OldK.of_keep λb o e=>?_,os,bare⟩
    cases q:H b with
    |none=>exact un.keep b o e q (by intro z;exact absurd (show b∈([]:List Addr) from z) (by simp)) (by simp)
    |some u=>
     rcases hO b with z | ⟨ob,xs,z⟩
     ·rw[q] at z;cases z
     ·have z2:=un.frzs b ob _ z
      obtain⟨e1,_⟩:=hok b _ z
      obtain⟨e2,_⟩:=hok' b _ z2
      rw[e] at e1;cases e1
      exact e2
 cases hk:K.lookup a with
 |some o=>
  -- the script is one of the module's own objects
  have e:=KX a o hk
  rw[ha] at e
  cases e
  refine core (λ_=>none) (λ_=>.inl rfl) (.inr ⟨_,vs.toArray,_,hk,rfl,rfl,rfl,by rw[List.size_toArray,lenV];exact hl,by simpa using rv⟩) (λb u z=>by have z':(none:Option HO)=some u:=z;cases z') (λb z=>absurd rfl z) λz=>absurd rfl z
 |none=>
  refine core (λb=>if b=a then some (.frz {cls:=.type "list",data:=.seq vs.toArray} (.lst (ns.map V.int))) else none) (λb=>?_) (.inl (.inr ⟨{cls:=.type "list",data:=.seq vs.toArray},if_pos rfl⟩)) (λb u z=>?_) (λb z=>?_) λ_=>hk
  ·by_cases hb:b=a
   ·exact .inr ⟨_,_,if_pos hb⟩
   ·exact .inl (if_neg hb)
  ·by_cases hb:b=a
   ·have z':=(if_pos hb).symm.trans z
    cases z'
    subst hb
    exact⟨ha,by rw[List.length_map];exact hl,vs,_,rv,ha⟩
   ·have z':=(if_neg hb).symm.trans z
    cases z'
  ·by_cases hb:b=a
   ·exact hb
   ·exact absurd (if_neg hb) z
theorem EG {l:PySem.W.OpenLaw}{n k:Nat}{q:Program}{loose:List Str}{XP:(Str->Option Value)->Heap->Prop}{YP:World->Heap->Prop}{d:DefRec}{K:Params->PySem.W.Frag}{CX:World->CXT}{sp:World->Sp}{x:Str}
  (hn:l.most=some n)(hn2:n<=sizeLine)(hdf:d.params.defaults=[])(hr:Room k callerA)
  (hY:∀(w:World) (h:Heap),YP w h->(K w.params).In h)
  (F:∀(w:World) (mg:Str->Option Value) (fa:Addr) (h:Heap),(K w.params).In h->h.Ns mainGlobals mg->mg d.name=some (.ref fa)->
   ∃fd:FuncData,(∀(s:Shared) (u:Value),BindsTo s fd ⟨[u],[]⟩ [(x,u)])/\
    ∀base:Heap,(K w.params).In base->base.Ns mainGlobals mg->FnOk l.prog w (K w.params) mg base (CX w) k fa fd [x] (sp w))
  (hsp:∀(w:World) (H:Hp) (a:Addr) (ns:List Int),ns.length<=n->Mc H->SqL (K w.params) H a (ns.map V.int)->sp w [.ref a] H (λv _=>v= .bl true) λ_ _ _=>False)
  (hCX:∀(w:World) (H:Hp) (s:Shared) (e:Value) (s':Shared),CX w [] H s (λ_ _ _=>False) e s'->False):
  PySem.W.WalkO q loose XP YP l.row.toRowW d [] (λf vs=>PySem.call f vs):=by
 refine Att.attach_call hn hdf λw s₀ s₁ mg mb fa o pm cd doc a vs ns G Y ho hd hcd hmg hobj hints hlen hg=>?_
 have KX:=hY w _ Y
 obtain⟨fd,hb,hF⟩:=F w mg fa _ KX G.T.g hmg
 exact BR KX G.T.g G.T.b G.T.builtins G.T.nolimit hg hobj hints (Nat.le_trans hlen hn2) hr hF hb (λH hO hS=>hsp w H a ns hlen hO hS) λH e s'=>hCX w H s₁ e s'
noncomputable def YJ (s:Stmt):Arguments:=match s with
 | .FunctionDef _ a _ _ _ _ _ _ _ _=>a
 |_=>{posonlyargs:=[],args:=[],vararg:=none,kwonlyargs:=[],kw_defaults:=[],kwarg:=none,defaults:=[]}
noncomputable def Yo (s:Stmt):List Stmt:=match s with
 | .FunctionDef _ _ b _ _ _ _ _ _ _=>b
 |_=>[]
noncomputable def Xi (s:Stmt):Scope:=match s with
 | .FunctionDef _ _ _ _ _ _ sc _ _ _=>sc
 |_=>{kind:=.function,names:=[],isGenerator:=false,isCoroutine:=false}
noncomputable abbrev CX0:CXT:=λ_ _ _ _ _ _=>False
noncomputable abbrev E0:XK:=λ_ _ _=>False
theorem L8 {X:Cx}:VF CX0 X E0:=λ_ _ _ _ _ _ _ h=>h.elim
structure Fun (K:PySem.W.Frag)(x qual:Str)(st:Stmt)(f:Addr)(fd:FuncData):Prop where
 ex:∃(oc:Value) (od:Option Addr) (kV doc pm:Value) (an:Option Addr) (cdv ct:Value) (osl:Array (Option Value)),
  fd=PySem.W.fnOf x qual (YJ st) (Yo st) (Xi st) .none kV doc pm an cdv ct/\K.lookup f=some ⟨oc,od, .func fd,osl⟩/\PySem.W.codeIn K cdv qual=true
 kp:PySem.W.keepIn K (.ref f)=true
section
variable {P:Program}{w:World}{K:PySem.W.Frag}{mg:Str->Option Value}{base:Heap}
theorem Fun.ok {x qual:Str}{st:Stmt}{f:Addr}{fd:FuncData}{N ps:List Str}{k:Nat}{sp:Sp}(F:Fun K x qual st f fd)(S:FnScope N ps (Xi st))(len:∀vs H Q E,sp vs H Q E->vs.length=ps.length)
  (hbody:∀(cdv:Value) (A:Around) (outer:List Env) (s:Shared) (H:Hp) (vs:List V) (Q:VK) (E:XK),Room k (A.deeper (envOfC qual (Xi st) s.heap.objs.size f cdv))->sp vs H Q E->
   ∃t,PSs (Fe CX0 P w K mg base N qual (Xi st) f cdv A outer s H E).nox (Yo st) t/\t {nx:=λ_ H'=>Q .non H',rt:=Q} (Vc N vs) H):FnOk P w K mg base CX0 (k+1) f fd ps sp:=by
 obtain⟨oc,od,kV,doc,pm,an,cdv,ct,osl,rfl,lk,hcd⟩:=F.ex
 refine I9 lk hcd S len λA outer s H vs Q E hr hsp=>?_
 obtain⟨t,h,q⟩:=hbody cdv A outer s H vs Q E hr hsp
 exact⟨t,h.nox,q⟩
theorem Fun.binds {x qual:Str}{st:Stmt}{f:Addr}{fd:FuncData}{ps:List Str}(F:Fun K x qual st f fd)
  (h:∀(kV doc pm:Value) (an:Option Addr) (cdv ct:Value) (us:List Value),us.length=ps.length->bindArgs (PySem.W.fnOf x qual (YJ st) (Yo st) (Xi st) .none kV doc pm an cdv ct) ⟨us,[]⟩=pure (ps.zip us)):UA K fd ps []:=by
 obtain⟨oc,od,kV,doc,pm,an,cdv,ct,osl,rfl,lk,hcd⟩:=F.ex
 exact .all (h kV doc pm an cdv ct)
theorem Qt {x qual:Str}{st:Stmt}{f:Addr}{oc:Value}{od an:Option Addr}{osl:Array (Option Value)}{kV doc pm cdv ct:Value}(l:K.lookup f=some ⟨oc,od, .func (PySem.W.fnOf x qual (YJ st) (Yo st) (Xi st) .none kV doc pm an cdv ct),osl⟩)
  (c:PySem.W.codeIn K cdv qual=true)(k:PySem.W.keepIn K (.ref f)=true):Fun K x qual st f (PySem.W.fnOf x qual (YJ st) (Yo st) (Xi st) .none kV doc pm an cdv ct):=⟨⟨oc,od,kV,doc,pm,an,cdv,ct,osl,rfl,l,c⟩,k⟩
end
theorem YT {A:Around}{k:Nat}(hr:Room k A):A.units+1<cLine:=Nat.lt_of_le_of_lt (Nat.add_le_add_left (by decide:1<=64) _) hr.units
section
variable {X:Cx}
theorem pv (i:Nat){x:Str}{pos:Pos}(hN:X.N[i]?=some x:=by rfl)(hv:Vis X.env.scope x:=by first |exact Or.inl rfl |exact Or.inr (Or.inl rfl) |exact Or.inr (Or.inr rfl))(hd:(x==("__debug__":Str))=false:=by decide)
  (hcd:(x==("__classdict__":Str))=false:=by decide):PE X (.Name x pos) (Ux i):=IZ hN hv hd hcd
end
noncomputable def Xo (H H':Hp):Prop:=∀ b o,H b=some o->H' b=some o
theorem Xo.refl (H:Hp):Xo H H:=λ_ _ h=>h
theorem Xo.trans {H H1 H2:Hp}(a:Xo H H1)(b:Xo H1 H2):Xo H H2:=λc o h=>b c o (a c o h)
theorem Xo.free {H H':Hp}(e:Xo H H'){l:Addr}(h:H' l=Option.none):H l=Option.none:=by
 cases q:H l with
 |none=>rfl
 |some o=>
  rw[e l o q] at h
  cases h
theorem Xo.seq {K:PySem.W.Frag}{H H':Hp}{a:Addr}{xs:List V}(e:Xo H H')(h:SqL K H a xs):SqL K H' a xs:=by
 rcases h with(h | ⟨o,h⟩) |h
 ·exact .inl (.inl (e _ _ h))
 ·exact .inl (.inr ⟨o,e _ _ h⟩)
 ·exact .inr h
section
variable {κ:Type}[DecidableEq κ]
noncomputable def Kq (kvs:List (κ×V))(k:κ):Option V:=(kvs.find? λkv=>decide (kv.1=k)).map (·.2)
noncomputable def Jp (kvs:List (κ×V))(k:κ)(v:V):List (κ×V):=
 if(kvs.any λkv=>decide (kv.1=k))=true then kvs.map (λkv=>if kv.1=k then(kv.1,v) else kv) else kvs++[(k,v)]
noncomputable def IY (kvs:List (κ×V))(k:κ):List (κ×V):=kvs.filter λkv=>decide (kv.1≠k)
theorem Ja {p:κ×V}{r:List (κ×V)}{k:κ}(e:p.1=k):Kq (p::r) k=some p.2:=by simp[Kq,List.find?_cons,e]
theorem Ji {p:κ×V}{r:List (κ×V)}{k:κ}(e:¬p.1=k):Kq (p::r) k=Kq r k:=by simp[Kq,List.find?_cons,e]
theorem Gr (k:κ):∀kvs:List (κ×V),(kvs.any λkv=>decide (kv.1=k))=(Kq kvs k).isSome
 | []=>rfl
 |p::r=>by
  rw[List.any_cons]
  by_cases e:p.1=k
  ·simp only[Ja e,decide_eq_true e,Bool.true_or,Option.isSome_some]
  ·rw[Ji e,decide_eq_false e,Bool.false_or];exact Gr k r
theorem JS (kvs:List (κ×V))(k:κ)(v:V):(Jp kvs k v).length<=kvs.length+1:=by
 unfold Jp
 split
 ·rw[List.length_map];omega
 ·rw[List.length_append,List.length_cons,List.length_nil];omega
theorem GR.isSome_eq {o:Option V}{u:Option Value}(r:GR o u):o.isSome=u.isSome:=by
 cases o with
 |none=>cases u with
  |none=>rfl
  |some _=>exact(show False from r).elim
 |some _=>cases u with
  |none=>exact(show False from r).elim
  |some _=>rfl
theorem GR.getD {o:Option V}{u:Option Value}{d:V}{d':Value}(r:GR o u)(rd:XW d d'):XW (o.getD d) (u.getD d'):=by
 cases o with
 |none=>cases u with
  |none=>exact rd
  |some _=>exact(show False from r).elim
 |some _=>cases u with
  |none=>exact(show False from r).elim
  |some _=>exact r
theorem KV.val {kvs:List (κ×V)}{vs:List (κ×Value)}(r:KV kvs vs)(k:κ):GR (Kq kvs k) (valueAt vs k):=by
 unfold KV at r
 induction r with
 |nil=>exact True.intro
 | @cons p q ps qs h t ih=>
  obtain⟨h1,h2⟩:=h
  by_cases e:p.1=k
  ·have e':q.1=k:=h1.symm.trans e
   have b:valueAt (q::qs) k=some q.2:=by simp[valueAt,List.find?_cons,e']
   rw[Ja e,b];exact h2
  ·have e':¬q.1=k:=λz=>e (h1.trans z)
   have b:valueAt (q::qs) k=valueAt qs k:=by simp[valueAt,List.find?_cons,e']
   rw[Ji e,b];exact ih
theorem KV.any {kvs:List (κ×V)}{vs:List (κ×Value)}(r:KV kvs vs)(k:κ):(kvs.any λkv=>decide (kv.1=k))=vs.any λkv=>decide (kv.1=k):=by
 unfold KV at r
 induction r with
 |nil=>rfl
 |cons h t ih=>rw[List.any_cons,List.any_cons,ih,h.1]
theorem KV.repl {kvs:List (κ×V)}{vs:List (κ×Value)}(r:KV kvs vs)(k:κ){y:V}{u:Value}(ry:XW y u):
  KV (kvs.map λkv=>if kv.1=k then(kv.1,y) else kv) (vs.map λkv=>if kv.1=k then(kv.1,u) else kv):=by
 unfold KV at r⊢
 induction r with
 |nil=>exact .nil
 | @cons p q ps qs h t ih=>
  rw[List.map_cons,List.map_cons]
  refine .cons ?_ ih
  obtain⟨h1,h2⟩:=h
  by_cases e:p.1=k
  ·rw[if_pos e,if_pos (h1.symm.trans e)];exact⟨h1,ry⟩
  ·rw[if_neg e,if_neg (λz=>e (h1.trans z))];exact⟨h1,h2⟩
theorem KV.put {kvs:List (κ×V)}{vs:List (κ×Value)}(r:KV kvs vs)(k:κ){y:V}{u:Value}(ry:XW y u):KV (Jp kvs k y) (stored vs k u):=by
 unfold Jp stored
 rw[r.any k]
 by_cases e:(vs.any λkv=>decide (kv.1=k))=true
 ·rw[if_pos e,if_pos e];exact r.repl k ry
 ·rw[if_neg e,if_neg e];exact Paired.snoc r ⟨rfl,ry⟩
theorem KV.drop {kvs:List (κ×V)}{vs:List (κ×Value)}(r:KV kvs vs)(k:κ):KV (IY kvs k) (without vs k):=by
 unfold KV at r⊢
 unfold IY without
 induction r with
 |nil=>exact .nil
 | @cons p q ps qs h t ih=>
  obtain⟨h1,h2⟩:=h
  rw[List.filter_cons,List.filter_cons]
  by_cases e:p.1=k
  ·have a:¬decide (p.1≠k)=true:=by simp[e]
   have b:¬decide (q.1≠k)=true:=by simp[h1.symm.trans e]
   rw[if_neg a,if_neg b];exact ih
  ·have e':¬q.1=k:=λz=>e (h1.trans z)
   have a:decide (p.1≠k)=true:=by simp[e]
   have b:decide (q.1≠k)=true:=by simp[e']
   rw[if_pos a,if_pos b];exact .cons ⟨h1,h2⟩ ih
theorem KV.keys {kvs:List (κ×V)}{vs:List (κ×Value)}(r:KV kvs vs):kvs.map (·.1)=vs.map (·.1):=by
 unfold KV at r
 induction r with
 |nil=>rfl
 |cons h t ih=>rw[List.map_cons,List.map_cons,ih,h.1]
theorem KV.length {kvs:List (κ×V)}{vs:List (κ×Value)}(r:KV kvs vs):kvs.length=vs.length:=Paired.length r
end
theorem G8 {P:Program}{w:World}{k:Key}{u:Value}(r:XW (kV k) u):(X1 P w).is k u=true:=by
 cases k with
 |inl i=>obtain⟨t,e⟩:=(show ∃t,u=Value.int i t from r);subst e;exact KC P w i t
 |inr x=>obtain⟨t,e⟩:=(show ∃t,u=Value.str x t from r);subst e;exact KK P w x t
theorem UN {P:Program}{w:World}:∀{ks:List Key}{us:List Value},XR (ks.map kV) us->ItemsAre (X1 P w) ks us
 | [],_,r=>by rw[List.map_nil] at r;cases r;exact .nil
 |k::ks,_,r=>by
  rw[List.map_cons] at r
  cases r with
  |cons h t=>exact .cons (G8 h) (UN t)
noncomputable abbrev KT (H:Hp):List (List Key×V)->List (List Key×Addr×Value)->Prop:=Paired λp q=>p.1=q.1/\H q.2.1=some (.tup (p.1.map kV))/\XW p.2 q.2.2
theorem KT.val {H:Hp}{kvs:List (List Key×V)}{xs:List (List Key×Addr×Value)}(r:KT H kvs xs)(k:List Key):GR (Kq kvs k) ((atKey xs k).map (·.2)):=by
 induction r with
 |nil=>exact True.intro
 | @cons p q ps qs h t ih=>
  obtain⟨h1,_,h2⟩:=h
  by_cases e:p.1=k
  ·have e':q.1=k:=h1.symm.trans e
   have b:atKey (q::qs) k=some q.2:=by simp[atKey,List.find?_cons,e']
   rw[Ja e,b];exact h2
  ·have e':¬q.1=k:=λz=>e (h1.trans z)
   have b:atKey (q::qs) k=atKey qs k:=by simp[atKey,List.find?_cons,e']
   rw[Ji e,b];exact ih
theorem KT.repl {H:Hp}{kvs:List (List Key×V)}{xs:List (List Key×Addr×Value)}(r:KT H kvs xs)(k:List Key){y:V}{u:Value}(ry:XW y u):
  KT H (kvs.map λkv=>if kv.1=k then(kv.1,y) else kv) (xs.map (putAt k u)):=by
 induction r with
 |nil=>exact .nil
 | @cons p q ps qs h t ih=>
  rw[List.map_cons,List.map_cons]
  refine .cons ?_ ih
  obtain⟨h1,h2,h3⟩:=h
  unfold putAt
  by_cases e:p.1=k
  ·rw[if_pos e,if_pos (h1.symm.trans e)];exact⟨h1,h2,ry⟩
  ·rw[if_neg e,if_neg (λz=>e (h1.trans z))];exact⟨h1,h2,h3⟩
theorem KT.put {H:Hp}{kvs:List (List Key×V)}{xs:List (List Key×Addr×Value)}(r:KT H kvs xs)(k:List Key){b:Addr}{y:V}{u:Value}(hb:H b=some (.tup (k.map kV)))(ry:XW y u):
  KT H (Jp kvs k y) (storedH xs k b u):=by
 have e:(kvs.any λkv=>decide (kv.1=k))=(atKey xs k).isSome:=by
  rw[Gr,(r.val k).isSome_eq,Option.isSome_map]
 unfold Jp storedH
 rw[e]
 by_cases q:(atKey xs k).isSome=true
 ·rw[if_pos q,if_pos q];exact r.repl k ry
 ·rw[if_neg q,if_neg q];exact Paired.snoc r ⟨rfl,hb,ry⟩
theorem KT.keeps {H H':Hp}{kvs:List (List Key×V)}{xs:List (List Key×Addr×Value)}(r:KT H kvs xs)(ht:∀b ys,H b=some (.tup ys)->H' b=some (.tup ys)):KT H' kvs xs:=
 Paired.mapP r λ_ _ z=>⟨z.1,ht _ _ z.2.1,z.2.2⟩
section
variable {P:Program}{w:World}{H:Hp}{h:Heap}{a:Addr}
theorem IV {u:HO}(ok:HOk P w H h)(e:Rd H a u):Ym P w H h a u:=e.ok ok
theorem F1 {kvs:List (Key×V)}(ok:HOk P w H h)(e:Rd H a (.dK kvs)):kvs.length<=sizeLine/\(a==sysModules)=false/\∃vs,KV kvs vs/\h.DictOf (X1 P w) a vs:=
 show Ym P w H h a (.dK kvs) from IV ok e
theorem Md {kvs:List (Key×V)}(ok:HOk P w H h)(e:H a=some (.dK kvs)):kvs.length<=sizeLine/\(a==sysModules)=false/\∃vs,KV kvs vs/\h.DictOf (X1 P w) a vs:=F1 ok (.inl e)
theorem Vp {ks:List Key}(ok:HOk P w H h)(e:H a=some (.tup (ks.map kV))):(tupleKind (X1 P w)).is h ks a:=by
 obtain⟨_,its,r,o,h1,h2,n,h3⟩:=(show Ym P w H h a (.tup (ks.map kV)) from ok a _ e)
 exact⟨o,its.toArray,n,h1,h2.1,h3,by simpa using UN r⟩
theorem DV {kvs:List (List Key×V)}(ok:HOk P w H h)(e:Rd H a (.dT kvs)):kvs.length<=sizeLine/\(a==sysModules)=false/\
  ∃xs,KT H kvs xs/\h.DictOfH (tupleKind (X1 P w)) a xs:=by
 obtain⟨z,y,xs,r,o,es,ep,h1,h2,h3,h4,h5⟩:=(show Ym P w H h a (.dT kvs) from IV ok e)
 refine⟨z,y,xs,r,o,es,ep,h1,h2,h3,h4,λx hx=>?_,h5⟩
 have all:∀{l:List (List Key×V)}{m:List (List Key×Addr×Value)},KT H l m->∀x∈m,(tupleKind (X1 P w)).is h x.1 x.2.1:=by
  intro l m q
  induction q with
  |nil=>intro x hx;exact nomatch hx
  | @cons p q ps qs hq t ih=>
   intro x hx
   rcases List.mem_cons.mp hx with e |hx
   ·subst e
    exact Vp ok (by rw[←hq.1];exact hq.2.1)
   ·exact ih x hx
 exact all r x hx
theorem Mr {kvs:List (List Key×V)}(ok:HOk P w H h)(e:H a=some (.dT kvs)):kvs.length<=sizeLine/\(a==sysModules)=false/\
  ∃xs,KT H kvs xs/\h.DictOfH (tupleKind (X1 P w)) a xs:=DV ok (.inl e)
end
noncomputable def Fx (H:Hp)(a:Addr)(y:V)(r:Option V):Prop:=
 (∃kvs k,Rd H a (.dK kvs)/\y=kV k/\r=Kq kvs k)∨∃kvs k b,Rd H a (.dT kvs)/\y= .ref b/\H b=some (.tup (k.map kV))/\r=Kq kvs k
noncomputable def Ie (H:Hp)(a:Addr)(y v:V)(H':Hp):Prop:=
 (∃kvs k,H a=some (.dK kvs)/\y=kV k/\kvs.length<sizeLine/\H'=upd H a (.dK (Jp kvs k v)))∨
 ∃kvs k b,H a=some (.dT kvs)/\y= .ref b/\H b=some (.tup (k.map kV))/\kvs.length<sizeLine/\H'=upd H a (.dT (Jp kvs k v))
theorem Fx.k {H:Hp}{a:Addr}{kvs:List (Key×V)}{k:Key}(e:H a=some (.dK kvs)):Fx H a (kV k) (Kq kvs k):=.inl ⟨kvs,k, .inl e,rfl,rfl⟩
theorem Fx.t {H:Hp}{a b:Addr}{kvs:List (List Key×V)}{k:List Key}(e:H a=some (.dT kvs))(eb:H b=some (.tup (k.map kV))):Fx H a (.ref b) (Kq kvs k):=.inr ⟨kvs,k,b, .inl e,rfl,eb,rfl⟩
theorem Ie.k {H:Hp}{a:Addr}{kvs:List (Key×V)}{k:Key}{v:V}(e:H a=some (.dK kvs))(hl:kvs.length<sizeLine):Ie H a (kV k) v (upd H a (.dK (Jp kvs k v))):=.inl ⟨kvs,k,e,rfl,hl,rfl⟩
theorem Ie.t {H:Hp}{a b:Addr}{kvs:List (List Key×V)}{k:List Key}{v:V}(e:H a=some (.dT kvs))(eb:H b=some (.tup (k.map kV)))(hl:kvs.length<sizeLine):
  Ie H a (.ref b) v (upd H a (.dT (Jp kvs k v))):=.inr ⟨kvs,k,b,e,rfl,eb,hl,rfl⟩
section
variable {X:Cx}{pins:List (Addr×Obj)}{σ:St}{H:Hp}{s:Shared}{a:Addr}{y v:V}{u r:Value}{o:Option V}{A:Around}{E:Value->Shared->Prop}
theorem Inv.big (I:Inv X pins σ H s):sysModules<s.heap.objs.size:=by
 have h:mainGlobals<s.heap.objs.size:=(I.mod.glob.keeps I.bk).lt
 exact Nat.lt_trans (by decide) h
theorem Dh {Q:Value->Shared->Prop}(hu:A.units+1<cLine)(I:Inv X pins σ H s)(g:Fx H a y (some v))(ry:XW y u)(h:∀w' s',Inv X pins σ H s'->XW v w'->Q w' s'):
  wpAny (model X.prog X.w) A (getItem (.ref a) u) Q E s:=by
 rcases g with⟨kvs,k,e,ey,l⟩ | ⟨kvs,k,b,e,ey,eb,l⟩
 ·subst ey
  obtain⟨z,hd,vs,rel,dd⟩:=F1 I.hok e
  obtain⟨w',hw,rw'⟩:=GR.some_of (v:=v) (o:=valueAt vs k) (by rw[l];exact rel.val k)
  exact wpAny_getItem_of (G8 ry) dd.mapOf hw (h w' _ (I.tok _) rw')
 ·subst ey
  cases(show u=Value.ref b from ry)
  obtain⟨z,hd,xs,rel,dd⟩:=DV I.hok e
  obtain⟨w',hw,rw'⟩:=GR.some_of (v:=v) (o:=(atKey xs k).map (·.2)) (by rw[l];exact rel.val k)
  obtain⟨p,hp,hp2⟩:=Option.map_eq_some_iff.mp hw
  refine wpAny_getItem_heap (tupleKind_room_in1 hu) (Vp I.hok eb) dd hp ?_
  rw[hp2]
  exact h w' _ (I.tok _) rw'
theorem M0 {Q:Value->Shared->Prop}(hu:A.units+1<cLine)(I:Inv X pins σ H s)(g:Fx H a y o)(ry:XW y u)(h:∀s',Inv X pins σ H s'->Q (.bool o.isSome) s'):
  wpAny (model X.prog X.w) A (compareOp .In u (.ref a)) Q E s:=by
 rcases g with⟨kvs,k,e,ey,l⟩ | ⟨kvs,k,b,e,ey,eb,l⟩
 ·subst ey
  obtain⟨z,hd,vs,rel,dd⟩:=F1 I.hok e
  refine wpAny_in_of (G8 ry) hd dd.mapOf ?_
  rw[←(rel.val k).isSome_eq, ←l]
  exact h _ (I.tok _)
 ·subst ey
  cases(show u=Value.ref b from ry)
  obtain⟨z,hd,xs,rel,dd⟩:=DV I.hok e
  refine wpAny_in_heap (tupleKind_room_in1 hu) (Vp I.hok eb) hd dd ?_
  have q:=(rel.val k).isSome_eq
  rw[Option.isSome_map] at q
  rw[←q, ←l]
  exact h _ (I.tok _)
theorem HR {Q:Value->Shared->Prop}(hu:A.units+1<cLine)(I:Inv X pins σ H s)(g:Fx H a y o)(ry:XW y u)(h:∀s',Inv X pins σ H s'->Q (.bool (!o.isSome)) s'):
  wpAny (model X.prog X.w) A (compareOp .NotIn u (.ref a)) Q E s:=by
 rcases g with⟨kvs,k,e,ey,l⟩ | ⟨kvs,k,b,e,ey,eb,l⟩
 ·subst ey
  obtain⟨z,hd,vs,rel,dd⟩:=F1 I.hok e
  refine wpAny_notIn_of (G8 ry) hd dd.mapOf ?_
  rw[←(rel.val k).isSome_eq, ←l]
  exact h _ (I.tok _)
 ·subst ey
  cases(show u=Value.ref b from ry)
  obtain⟨z,hd,xs,rel,dd⟩:=DV I.hok e
  refine wpAny_notIn_heap (tupleKind_room_in1 hu) (Vp I.hok eb) hd dd ?_
  have q:=(rel.val k).isSome_eq
  rw[Option.isSome_map] at q
  rw[←q, ←l]
  exact h _ (I.tok _)
theorem Cj {h':Heap}{t':Nat}{ob:HO}(I:Inv X pins σ H s)(mu:Mut (H a))(hs:Heap.SameBut a s.heap h')(he:∃q,h'.get? a=some q)(new:Ym X.prog X.w (upd H a ob) h' a ob):
  Inv X pins σ (upd H a ob) {s with heap:=h',toks:=t'}:=
 I.write (x:=a) (e:=a) mu (.inl rfl) (λb q hb z=>(hs.2 b hb).trans z) he new
theorem Ip {P:Program}{w:World}{H':Hp}{h':Heap}{kvs:List (Key×V)}{vs:List (Key×Value)}(z:kvs.length<=sizeLine)(hd:(a==sysModules)=false)(rel:KV kvs vs)(dd:h'.DictOf (X1 P w) a vs):
  Ym P w H' h' a (.dK kvs):=⟨z,hd,vs,rel,dd⟩
theorem FU {H':Hp}{Q:Unit->Shared->Prop}(hu:A.units+1<cLine)(I:Inv X pins σ H s)(g:Ie H a y v H')(ry:XW y u)(rv:XW v r)(h:∀s',Inv X pins σ H' s'->Q () s'):
  wpAny (model X.prog X.w) A (setItem (.ref a) u r) Q E s:=by
 rcases g with⟨kvs,k,e,ey,l,eH⟩ | ⟨kvs,k,b,e,ey,eb,l,eH⟩
 ·subst ey eH
  obtain⟨z,hd,vs,rel,dd⟩:=Md I.hok e
  have hz:vs.length<=sizeLine:=by rw[←rel.length];exact z
  have hl:(Jp kvs k v).length<=sizeLine:=by have:=JS kvs k v;omega
  refine wpAny_setItem_pairs (hsz:=hz) (G8 ry) dd λh' dd' hs=>h _ ?_
  have he:∃q,h'.get? a=some q:=let ⟨q,_,_,hq,_⟩:=dd';⟨q,hq⟩
  exact Cj I (by rw[e];exact True.intro) hs he (Ip hl hd (rel.put k rv) dd')
 ·subst ey eH
  cases(show u=Value.ref b from ry)
  obtain⟨z,hd,xs,rel,dd⟩:=Mr I.hok e
  have hz:xs.length<=sizeLine:=by rw[←Paired.length rel];exact z
  have hl:(Jp kvs k v).length<=sizeLine:=by have:=JS kvs k v;omega
  refine wpAny_setItem_heap (hsz:=hz) (tupleKind_room_in1 hu) (Vp I.hok eb) dd λh' dd' hs=>h _ ?_
  obtain⟨q,es,ep,hq,h2,h3,h4,_,h5⟩:=dd'
  refine Cj I (by rw[e];exact True.intro) hs ⟨q,hq⟩ ⟨hl,hd,_,(rel.put k eb rv).keeps λc ys ec=>?_,q,es,ep,hq,h2,h3,h4,h5⟩
  rw[Xp (Mq ec e (λz=>nomatch z))]
  exact ec
end
section
variable {X:Cx}{pins:List (Addr×Obj)}{σ:St}{H:Hp}{s:Shared}{a:Addr}{kvs:List (Key×V)}{k:Key}{u:Value}{A:Around}{E:Value->Shared->Prop}
end
noncomputable def MP (i:Expr):Prop:=∀ ov iv,subscripted i false ov iv=operate [ov,iv] (getItem ov iv)
theorem Hk {prog:Program}{w:World}{A:Around}{E:Value->Shared->Prop}{s:Shared}{env:Env}{value slice:Expr}{pos:Pos}{T id:String}{Q:Value->Shared->Prop}
  (hl:typeLookup (.type T) "__getitem__" =pure (some (.builtin id)))(hs:MP slice)
  (h:wpAny (model prog w) A (eval value env) (λo s₁=>wpAny (model prog w) A (eval slice env) (λi s₂=>s₂.TypeIs o T/\wpAny (model prog w) A (getItem o i) Q E s₂) E s₁) E s):
  wpAny (model prog w) A (eval (.Subscript value slice pos) env) Q E s:=by
 refine Subscript_ (wpAny_mono h (λo s₁ h₁=>wpAny_mono h₁ (λi s₂ h₂=>?_) λ_ _ x=>x) λ_ _ x=>x)
 obtain⟨hT,h₂⟩:=h₂
 unfold subscriptTail
 refine wpAny_bind ?_
 rw[getitemInPython_of_ne hT.not_modules]
 refine wpAny_bind (wpAny_specialOf hT hl ?_)
 have fin:wpAny (model prog w) A (subscripted slice false o i) (λr s₃=>wpAny (model prog w) A (letTemporaryGo value o r >>= λ_=>pure r) Q E s₃) E s₂:=by
  rw[hs o i]
  exact wpAny_operating (wpAny_mono h₂ (λr s₃ h₃=>wpAny_bind (wpAny_letTemporaryGo (wpAny_pure h₃))) λ_ _ x=>x)
 first
  |exact wpAny_pure (wpAny_bind fin)
  |exact wpAny_bind (wpAny_pure (wpAny_bind fin))
  |exact wpAny_bind fin
theorem KA {X:Cx}{pins:List (Addr×Obj)}{σ:St}{H:Hp}{s:Shared}{a:Addr}{y:V}{o:Option V}(I:Inv X pins σ H s)(g:Fx H a y o):s.TypeIs (.ref a) "dict":=by
 rcases g with⟨kvs,k,e,_,_⟩ | ⟨kvs,k,b,e,_,_,_⟩
 ·obtain⟨_,_,vs,_,dd⟩:=F1 I.hok e
  exact dd.typeIs
 ·obtain⟨_,_,xs,_,dd⟩:=DV I.hok e
  exact dd.typeIs
noncomputable def Lv (td ty:TE):TE:=λσ H Q=>td σ H λx H1=>ty σ H1 λy H2=>∃ a v,x= .ref a/\Fx H2 a y (some v)/\Q v H2
noncomputable def Mu (ty td:TE):TE:=λσ H Q=>ty σ H λy H1=>td σ H1 λx H2=>∃ a o,x= .ref a/\Fx H2 a y o/\Q (.bl o.isSome) H2
noncomputable def Fu (ty td:TE):TE:=λσ H Q=>ty σ H λy H1=>td σ H1 λx H2=>∃ a o,x= .ref a/\Fx H2 a y o/\Q (.bl (!o.isSome)) H2
noncomputable def IP (td ty tv:TE):TS:=λD σ H=>tv σ H λv H1=>td σ H1 λx H2=>ty σ H2 λy H3=>∃ a H4,x= .ref a/\Ie H3 a y v H4/\D.nx σ H4
section
variable {X:Cx}{o i e value:Expr}{pos pos' tpos:Pos}{td ty tv:TE}
theorem Ju (hu:X.A.units+1<cLine)(ho:PE X o td)(hi:PE X i ty)(hs:MP i):PE X (.Subscript o i pos) (Lv td ty):=by
 intro pins s σ H Q I h
 refine Hk PySem.F.slot_dict_getitem.lookup hs (thn (ho pins s σ H _ I h) λu s1 ⟨x,H1,I1,rx,q1⟩=>thn (hi pins s1 σ H1 _ I1 q1) λiv s2 r9=>?_)
 obtain⟨y,H2,I2,ry,a,v,ex,g,q2⟩:=r9
 subst ex
 obtain rfl:u=Value.ref a:=rx
 exact⟨KA I2 g,Dh hu I2 g ry λw' s3 I3 rw'=>⟨v,H2,I3,rw',q2⟩⟩
theorem II (hu:X.A.units+1<cLine)(hi:PE X i ty)(ho:PE X o td):PC X .In i o (Mu ty td):=by
 intro pins s σ H Q I h
 refine thn (hi pins s σ H _ I h) λiv s1 ⟨y,H1,I1,ry,q1⟩=>thn (ho pins s1 σ H1 _ I1 q1) λu s2 r9=>?_
 obtain⟨x,H2,I2,rx,a,ov,ex,g,q2⟩:=r9
 subst ex
 obtain rfl:u=Value.ref a:=rx
 exact M0 hu I2 g ry λs3 I3=>⟨.bl ov.isSome,H2,I3,rfl,q2⟩
theorem Jq (hu:X.A.units+1<cLine)(hi:PE X i ty)(ho:PE X o td):PC X .NotIn i o (Fu ty td):=by
 intro pins s σ H Q I h
 refine thn (hi pins s σ H _ I h) λiv s1 ⟨y,H1,I1,ry,q1⟩=>thn (ho pins s1 σ H1 _ I1 q1) λu s2 r9=>?_
 obtain⟨x,H2,I2,rx,a,ov,ex,g,q2⟩:=r9
 subst ex
 obtain rfl:u=Value.ref a:=rx
 exact HR hu I2 g ry λs3 I3=>⟨.bl (!ov.isSome),H2,I3,rfl,q2⟩
theorem QJ (hu:X.A.units+1<cLine)(ho:PE X o td)(hi:PE X i ty)(hv:PE X value tv)(hs:swapsWith value (some (.Subscript o i pos')) pos.line X.env=pure false):
  PS X (.Assign [.Subscript o i pos'] value pos) (IP td ty tv):=by
 intro pins s σ H D I h
 refine wpAny_Assign_Subscript (thn (hv pins s σ H _ I h) λr s1 ⟨v,H1,I1,rv,q1⟩=>thn (ho pins s1 σ H1 _ I1 q1) λu s2 ⟨x,H2,I2,rx,q2⟩=>thn (hi pins s2 σ H2 _ I2 q2) λiv s3 r9=>?_) hs
 obtain⟨y,H3,I3,ry,a,H4,ex,g,q3⟩:=r9
 subst ex
 obtain rfl:u=Value.ref a:=rx
 exact FU hu I3 g ry rv λs4 I4=>⟨σ,H4,I4,q3⟩
end
theorem CU {P:Program}{w:World}{H:Hp}(h:Heap)(hb:sysModules<h.objs.size):Ym P w H (h.push {cls:=.type "dict",data:=.dict #[]}) h.objs.size (.dK []):=
 ⟨Nat.zero_le _,beq_eq_false_iff_ne.mpr (Ne.symm (Nat.ne_of_lt hb)),[], .nil,Heap.DictOf.new h⟩
noncomputable def Eu:TE:=λ_ H Q=>∀ p,H p=none->Q (.ref p) (upd H p (.dK []))
section
variable {X:Cx}{pos:Pos}
theorem Qx:PE X (.Dict [] [] pos) Eu:=λpins s σ H Q I h=>
 wpAny_Dict_empty ⟨.ref s.heap.objs.size,_,I.laid (a:=s.heap.objs.size) (o:=.dK []) (t':=s.toks) (λ_ _ q=>Heap.get?_push_of_some _ q) (Nat.le_refl _) (CU s.heap I.big),rfl,h _ (I.hok.fresh (Nat.le_refl _))⟩
end
section
variable {X:Cx}{pins:List (Addr×Obj)}{σ:St}{H:Hp}{s:Shared}{a:Addr}{y d:V}{u r:Value}{o:Option V}{A:Around}{E:Value->Shared->Prop}
end
section
variable {X:Cx}{o e f:Expr}{apos cpos:Pos}{td ty tx:TE}
end
section
variable {X:Cx}{pins:List (Addr×Obj)}{σ:St}{H:Hp}{s:Shared}{a:Addr}{kvs:List (Key×V)}{A:Around}{E:Value->Shared->Prop}
end
section
variable {X:Cx}{pins:List (Addr×Obj)}{σ:St}{H:Hp}{s:Shared}{a:Addr}{y:V}{u:Value}{A:Around}{E:Value->Shared->Prop}
end
section
variable {X:Cx}
end
section
variable {κ:Type}[DecidableEq κ]
end
theorem Ce {env:Env}:∀(names:List (Str×NameKind)),(∀x∈names,x.2=NameKind.free->∃c,env.cells.lookup x.1=some c)->
  ∀cs:List (Str×Addr),(∀x c,cs.lookup x=some c->env.cells.lookup x=some c)->
  ∃cl:List (Str×Addr),(forIn names cs (λ(x:Str×NameKind) (r:List (Str×Addr))=>(if(x.2==NameKind.free)=true then do let a ←cellOf env x.1;pure (ForInStep.yield ((x.1,a)::r)) else pure (ForInStep.yield r):Sem (ForInStep (List (Str×Addr))))))=(pure cl:Sem (List (Str×Addr)))/\
   (∀x c,cl.lookup x=some c->env.cells.lookup x=some c)/\(∀x,((x,NameKind.free)∈names∨∃c,cs.lookup x=some c)->∃c,cl.lookup x=some c)
 | [],_,cs,hs=>⟨cs,by rw[List.forIn_nil],hs,λx h=>h.elim (λz=>nomatch z) id⟩
 | (n,k)::r,hf,cs,hs=>by
  have hr:∀x∈r,x.2=NameKind.free->∃c,env.cells.lookup x.1=some c:=λx hx=>hf x (List.mem_cons_of_mem _ hx)
  by_cases hk:k=NameKind.free
  ·subst hk
   obtain⟨a,ha⟩:=hf (n,NameKind.free) List.mem_cons_self rfl
   have hs':∀x c,((n,a)::cs).lookup x=some c->env.cells.lookup x=some c:=λx c h=>by
    rw[List.lookup_cons] at h
    by_cases hx:x=n
    ·subst hx
     simp only[beq_self_eq_true] at h
     rw[←h];exact ha
    ·have:(x==n)=false:=beq_eq_false_iff_ne.mpr hx
     rw[this] at h
     exact hs x c h
   obtain⟨cl,e,h1,h2⟩:=Ce r hr ((n,a)::cs) hs'
   refine⟨cl,?_,h1,λx h=>h2 x ?_⟩
   ·rw[List.forIn_cons]
    have e1:cellOf env n=pure a:=by unfold cellOf;rw[show env.cells.lookup n=some a from ha]
    simp only[beq_self_eq_true,if_true,e1]
    exact e
   ·rcases h with h | ⟨c,h⟩
    ·rcases List.mem_cons.mp h with h |h
     ·have:x=n:=congrArg Prod.fst h
      subst this
      exact .inr ⟨a,by rw[List.lookup_cons];simp⟩
     ·exact .inl h
    ·by_cases hx:x=n
     ·subst hx;exact .inr ⟨a,by rw[List.lookup_cons];simp⟩
     ·exact .inr ⟨c,by rw[List.lookup_cons,beq_eq_false_iff_ne.mpr hx];exact h⟩
  ·obtain⟨cl,e,h1,h2⟩:=Ce r hr cs hs
   refine⟨cl,?_,h1,λx h=>h2 x ?_⟩
   ·rw[List.forIn_cons]
    have hb:(k==NameKind.free)=false:=by simpa using hk
    simp only[hb,Bool.false_eq_true,if_false]
    exact e
   ·rcases h with h |h
    ·rcases List.mem_cons.mp h with h |h
     ·exact absurd (congrArg Prod.snd h).symm hk
     ·exact .inl h
    ·exact .inr h
theorem F9 {scope:Scope}{env:Env}(hf:∀x∈scope.names,x.2=NameKind.free->∃c,env.cells.lookup x.1=some c):
  ∃cl:List (Str×Addr),closureFor scope env=pure cl/\(∀x c,cl.lookup x=some c->env.cells.lookup x=some c)/\(∀x,(x,NameKind.free)∈scope.names->∃c,cl.lookup x=some c):=by
 obtain⟨cl,e,h1,h2⟩:=Ce scope.names hf [] (λx c h=>by simp at h)
 refine⟨cl,?_,h1,λx h=>h2 x (.inl h)⟩
 unfold closureFor
 show((forIn scope.names [] (λ(x:Str×NameKind) (r:List (Str×Addr))=>(if(x.2==NameKind.free)=true then do let a ←cellOf env x.1;pure (ForInStep.yield ((x.1,a)::r)) else pure (ForInStep.yield r):Sem (ForInStep (List (Str×Addr)))))) >>= λs=>pure s)=pure cl
 rw[e]
 rfl
theorem Qm {env:Env}:∀{names:List (Str×NameKind)}{x:Str}{k:NameKind},(∀y∈names,y.2≠NameKind.cell)->
  (names.map λ(n,k)=>if(k==NameKind.free&&env.scope.kind== .function&&env.kindOf n==some .cell) then(n,NameKind.cell) else(n,k)).lookup x=some k->(k= .cell∨k= .free)->(x,NameKind.free)∈names
 | [],_,_,_,h,_=>by simp at h
 | (n,kk)::r,x,k,hc,h,hk=>by
  have ih:=@Qm env r x k (λy hy=>hc y (List.mem_cons_of_mem _ hy))
  have hh:=hc (n,kk) List.mem_cons_self
  simp only[List.map_cons] at h
  by_cases hcond:(kk==NameKind.free&&env.scope.kind== .function&&env.kindOf n==some .cell)=true
  ·rw[if_pos hcond,List.lookup_cons] at h
   have hfree:kk=NameKind.free:=by
    rw[Bool.and_eq_true,Bool.and_eq_true] at hcond
    simpa using hcond.1.1
   cases hx:x==n with
   |true=>
    have:x=n:=by simpa using hx
    subst this;subst hfree
    exact List.mem_cons_self
   |false=>rw[hx] at h;exact List.mem_cons_of_mem _ (ih h hk)
  ·rw[if_neg hcond,List.lookup_cons] at h
   cases hx:x==n with
   |true=>
    rw[hx] at h
    have hkk:kk=k:=Option.some.inj h
    have:x=n:=by simpa using hx
    subst this;subst hkk
    rcases hk with z |z
    ·exact absurd z hh
    ·subst z;exact List.mem_cons_self
   |false=>rw[hx] at h;exact List.mem_cons_of_mem _ (ih h hk)
theorem QZ {env:Env}:∀{names:List (Str×NameKind)}{x:Str},names.lookup x=some .free->
  let l:=(names.map λ(n,k)=>if(k==NameKind.free&&env.scope.kind== .function&&env.kindOf n==some .cell) then(n,NameKind.cell) else(n,k))
  l.lookup x=some .cell∨l.lookup x=some .free
 | [],_,h=>by simp at h
 | (n,kk)::r,x,h=>by
  have ih:=@QZ env r x
  simp only[List.map_cons]
  rw[List.lookup_cons] at h
  by_cases hcond:(kk==NameKind.free&&env.scope.kind== .function&&env.kindOf n==some .cell)=true
  ·rw[if_pos hcond,List.lookup_cons]
   cases hx:x==n with
   |true=>exact .inl rfl
   |false=>rw[hx] at h;exact ih h
  ·rw[if_neg hcond,List.lookup_cons]
   cases hx:x==n with
   |true=>rw[hx] at h;exact .inr h
   |false=>rw[hx] at h;exact ih h
noncomputable abbrev Cx.comp (X:Cx)(N:List Str)(scope:Scope)(cl:List (Str×Addr))(C:Addr)(s:Shared)(H:Hp)(ex:List Addr)(E:Value->Shared->Prop):Cx:=
 {X with N:=N,s₀:=s,H₀:=H,env:=compEnvC scope cl C X.env,outer:=X.stack,ex:=ex,fn:=λ_=>false,pn:=[],xe:=E}
noncomputable def PTs (X:Cx)(ifs:List Expr)(t:TT):Prop:=
 ∀(pins:List (Addr×Obj)) (s:Shared) (σ:St) (H:Hp) (Q:Bool->Hp->Prop),Inv X pins σ H s->t σ H Q->
  wpAny (model X.prog X.w) X.A (forIn ifs true λc r=>if r=true then do let ok ←isTrue c X.env (eval c X.env);pure (ForInStep.yield ok) else pure (ForInStep.yield r)) (TP X pins σ Q) X.xe s
noncomputable def Ut:TT:=λ_ H Q=>Q true H
theorem Iy {σ:St}{H:Hp}{A B:Hp->Prop}(h:A H):Ut σ H λc H5=>if c=true then A H5 else B H5:=by
 show if true=true then A H else B H
 rw[if_pos rfl]
 exact h
theorem Qi {X:Cx}:PTs X [] Ut:=λ_ _ _ H _ I h=>wpAny_tests_nil ⟨H,I,h⟩
theorem HL {X:Cx}{c:Expr}{t:TT}(h:PT X c t):PTs X [c] t:=λpins s σ H Q I hw=>wpAny_tests_one (h pins s σ H Q I hw)
noncomputable def Ur (n:Nat)(g:TG):Prop:=∀ x σ H Q,g x σ H Q->g x σ H λσ2 H2=>Q σ2 H2/\σ2.length=σ.length/\∀i,n<=i->σ2[i]?=σ[i]?
theorem QN {n i:Nat}(h:i<n):Ur n (Ql i):=λx σ H Q q=>⟨q,by simp,λj hj=>by rw[List.getElem?_set_ne (by lia)]⟩
theorem Fs {K:PySem.W.Frag}{n i j:Nat}(hi:i<n)(hj:j<n):Ur n (LJ K 2 (FY (Ql i) (FY (Ql j) Mh))):=λx σ H Q q=>by
 obtain⟨a,xs,e1,hq,hl,v,r,e2,w,r2,e3,e4,q⟩:=q
 exact⟨a,xs,e1,hq,hl,v,r,e2,w,r2,e3,e4,q,by simp,λk hk=>by rw[List.getElem?_set_ne (by lia),List.getElem?_set_ne (by lia)]⟩
noncomputable def QC (n:Nat)(caps:List (Nat×Str))(σ:St):St:=List.replicate n none++caps.map λp=>(σ[p.1]?).join
noncomputable def EX (g:TG)(tt:TT)(te:TE)(σ:St)(Q:VK)(J:It)(W:Nat->Nat->List V->Hp->Prop):Prop:=
 ∀i m ys H2,W i m ys H2->ys.length<=sizeLine/\
  ((J.stop i H2/\∀p,H2 p=none->Q (.ref p) (upd H2 p (.lst ys)))∨
  (J.go i H2/\∃N:List V->Hp->Prop,(∀ys' H',N ys' H'->∃m',m'<m/\W (i+1) m' ys' H')/\∀x H3,J.yld i H2 x H3->g x σ H3 λσ4 H4=>tt σ4 H4 λc H5=>
   if c=true then te σ4 H5 λv H6=>N (ys++[v]) H6 else N ys H5))
noncomputable def B9 (n:Nat)(caps:List (Nat×Str))(g:TG)(tt:TT)(te:TE)(σ:St)(Q:VK)(J:It)(H1:Hp):Prop:=
 ∃W:Nat->Nat->List V->Hp->Prop,(∃m,W 0 m [] H1)/\EX g tt te (QC n caps σ) Q J W
noncomputable def CK (n:Nat)(caps:List (Nat×Str))(wi:TI)(g:TG)(tt:TT)(te:TE):TE:=λσ H Q=>wi σ H λJ H1=>B9 n caps g tt te σ Q J H1
noncomputable def Kl (sc scope:Scope)(N0 tns:List Str)(caps:List (Nat×Str)):Bool:=
 scope.kind== .function&&scope.names.all (λy=>!(y.2== .cell))&&scope.names.all (λy=>!(y.2== .local) || scope.names.lookup y.1==some .local)&&
 scope.names.all (λy=>!(y.2== .free) || sc.names.lookup y.1==some .cell)&&caps.all (λp=>N0[p.1]?==some p.2&&sc.names.lookup p.2==some .cell&&scope.names.lookup p.2==some .free)
theorem Ge {α:Type}{p:α}{P:Prop}(h:p∈([]:List α)):P:=nomatch h
noncomputable def Lo (M:Model)(A:Around)(elt tg:Expr)(ifs:List Expr)(acc:Value)(env:Env)(E:Value->Shared->Prop)(K:Shared->Prop)(v:Value)(s:Shared):Prop:=
 wpAny M A (assign tg env v) (λ_ s₂=>wpAny M A (forIn ifs true λc r=>if r=true then do let ok ←isTrue c env (eval c env);pure (ForInStep.yield ok) else pure (ForInStep.yield r)) (λok s₃=>
  if ok=true then wpAny M A (eval elt env) (λx s₄=>wpAny M A (call (.builtin "list.append") [acc,x]) (λ_ s₅=>K s₅) E s₄) E s₃ else K s₃) E s₂) E s
noncomputable def L9 (M:Model)(A:Around)(elt tg:Expr)(ifs:List Expr)(it acc:Value)(env:Env)(E:Value->Shared->Prop)(Rn K:Shared->Prop)(s:Shared):Prop:=
 wpAny M A (pyNext it) (λr s₁=>r=none/\Rn s₁∨∃v,r=some v/\wpAny M A (letOwnedTupleGo tg it v) (λ_ s₁=>Lo M A elt tg ifs acc env E K v s₁) E s₁) E s
section
variable {prog:Program}{w:World}{A:Around}{R:Result->Shared->Prop}{s:Shared}
theorem UL {elt target iter:Expr}{ifs:List Expr}{scope:Scope}{pos:Pos}{it acc:Value}{env:Env}{E:Value->Shared->Prop}(I:Nat->Shared->Prop)(hE:(notedBy (model prog w) A env λe s'=>R (.error e) s')=E)
  (turn:∀n s,I n s->L9 (model prog w) A elt target ifs it acc env E (λs=>R (.ok .next) s) (λs=>∃ m,m<n/\I m s) s)(n:Nat)(h:I n s):
  codeAny (model prog w) A (.compLoop (.ListComp elt [⟨target,iter,ifs,0⟩] scope pos) 0 it acc env) R s:=by
 subst hE
 refine codeAny_loop rfl I (λn s hI=>?_) n h
 show wpAny _ A ((compTurn (.ListComp elt [⟨target,iter,ifs,0⟩] scope pos) 0 it acc env).onRaise (λx=>do noteFrame x env;theTreesLotGoes x)) _ _ s
 refine wpAny_noted ?_
 rw[compTurn_list]
 refine wpAny_bind (wpAny_standAt (wpAny_bind (thn (turn n s hI) λr s₁ h₁=>?_)))
 rcases h₁ with⟨rfl,h₁⟩ | ⟨v,rfl,h₁⟩
 ·exact wpAny_pure h₁
 ·refine wpAny_bind (thn h₁ λ_ s₁' h₁'=>wpAny_bind (thn h₁' λ_ s₂ h₂=>wpAny_bind (thn h₂ λok s₃ h₃=>?_)))
  cases ok with
  |false=>exact wpAny_pure ⟨rfl,h₃⟩
  |true=>exact wpAny_bind (wpAny_bind (thn h₃ λx s₄ h₄=>wpAny_bind (thn h₄ λ_ s₅ h₅=>wpAny_pure (wpAny_pure ⟨rfl,h₅⟩))))
end
noncomputable def lob (its:List Value)(k:Nat):Obj:={cls:=.type "list",data:=.seq (List.toArray its) k}
structure CIn (Y:Cx)(tn:Nat->Heap->Prop)(fp:List Addr)(D:Addr)(σ:St)(i:Nat)(H:Hp)(o:Obj)(s:Shared):Prop where
 I:Inv Y [] σ H s
 t:tn i s.heap
 f:∀b∈fp,H b=none
 l:s.heap.get? D=some o
 n:H D=none
inductive CI (Y:Cx)(tn:Nat->Heap->Prop)(fp:List Addr)(D:Addr)(σ:St)(W:Nat->Nat->List V->Hp->Prop)(m:Nat)(s:Shared):Prop
 |mk (i:Nat) (H:Hp) (ys:List V) (its:List Value) (k:Nat) (c:CIn Y tn fp D σ i H (lob its k) s) (r:XR ys its) (w:W i m ys H)
structure CAt (Y:Cx)(fp:List Addr)(D:Addr):Prop where
 calm:Y.calm=true
 pn:Y.pn=[]
 ne:D≠Y.env.locals
 fs:D∉Y.fs
 sz:Y.s₀.heap.objs.size<=D
 cl:∀x c,Y.env.cells.lookup x=some c->c≠D
 fpn:∀b∈fp,b≠D
 ok:∀b∈fp,∀H:Hp,H b=none->K9 Y [] H b
section
variable {Y:Cx}{tn:Nat->Heap->Prop}{fp:List Addr}{D it:Addr}{σ:St}{tg elt iter:Expr}{ifs:List Expr}{J:It}{g:TG}{tt:TT}{te:TE}{n i:Nat}{H:Hp}{s:Shared}{o:Obj}{Kn:Shared->Prop}
theorem CAt.pins (c:CAt Y fp D)(hn:∀b∈fp,H b=none):∀b∈fp,K9 Y [(D,o)] H b:=λb hb=>
 have z:=c.ok b hb H (hn b hb)
 ⟨z.1,z.2.1,z.2.2.1,z.2.2.2.1,z.2.2.2.2.1,λp hp e=>by
  rw[c.pn] at hp
  cases List.mem_singleton.mp hp
  exact c.fpn b hb e.symm⟩
theorem K2 (T:Turn Y.prog Y.w Y.K tg J fp it tn){h5:Heap}(t:tn i h5)(I:Inv Y ([(D,o)]++UH fp h5) σ H s):CIn Y tn fp D σ i H o s:=
 have p:=I.pin (D,o) (List.mem_append_right _ (.head _))
 have q:∀b∈fp,∀o',h5.get? b=some o'->s.heap.get? b=some o'/\H b=none:=λb hb o' e=>have z:=I.pin (b,o') (List.mem_append_right _ (.tail _ (QI hb e)));⟨z.1,z.2.1⟩
 ⟨I.pins_of (pins':=[]) λ_ h=>Ge h,T.keep _ _ _ t λb hb o' e=>(q b hb o' e).1,λb hb=>(T.obj _ _ t b hb).elim λo' e=>(q b hb o' e.1).2,p.1,p.2.1⟩
theorem MY (T:Turn Y.prog Y.w Y.K tg J fp it tn)(a:CAt Y fp D){its:List Value}{k:Nat}{v:Value}{E:Value->Shared->Prop}(c:CIn Y tn fp D σ i H (lob its k) s)(hz:its.length<=sizeLine)
  (hQ:∀k' s',CIn Y tn fp D σ i H (lob (its++[v]) k') s'->Kn s'):wpAny (model Y.prog Y.w) Y.A (call (.builtin "list.append") [.ref D,v]) (λ_ s=>Kn s) E s:=by
 refine call_meets F.slot_list_append ⟨_,c.l,rfl⟩ F.entry_list_append (F.args_list_append_2 _ _) (PySem.list_append D (List.toArray its) k v hz) ⟨c.l,?_⟩
 have q:∃k',PySem.IsL (s.heap.update D (Obj.mapSeq (·.push v))) D ((List.toArray its).push v) k':=⟨_,PySem.IsL.update c.l (·.push v)⟩
 rw[List.push_toArray] at q
 obtain⟨k',q⟩:=q
 exact hQ k' _ ⟨c.I.turned (t':=s.toks) (h':=s.heap.update D (Obj.mapSeq (·.push v))) (it:=D) (λb o hb' e=>(Heap.get?_update_other s.heap _ (Ne.symm hb')).trans e) c.n a.ne (.inr a.sz) a.cl (λp hp=>by rw[a.pn] at hp;exact Ge hp),
  T.keep _ _ _ c.t λb hb o e=>(Heap.get?_update_other s.heap _ (Ne.symm (a.fpn b hb))).trans e,c.f,q,c.n⟩
theorem Bg {acc:Value}{pins:List (Addr×Obj)}{N:List V->Hp->Prop}{ys:List V}{x:V}{u:Value}(hg:PG Y tg g)(ht:PTs Y ifs tt)(he:PE Y elt te)(hG:Ur n g)(h0:∀(j:Nat) v,σ[j]?=some (some v)->n<=j)
  (I:Inv Y pins σ H s)(r:XW x u)(st:g x σ H λσ4 H4=>tt σ4 H4 λc H5=>if c=true then te σ4 H5 λv H6=>N (ys++[v]) H6 else N ys H5)
  (hF:∀H7 s7,Inv Y pins σ H7 s7->N ys H7->Kn s7)(hT:∀H8 s8 y v,Inv Y pins σ H8 s8->XW y v->N (ys++[y]) H8->wpAny (model Y.prog Y.w) Y.A (call (.builtin "list.append") [acc,v]) (λ_ s=>Kn s) Y.xe s8):
  Lo (model Y.prog Y.w) Y.A elt tg ifs acc Y.env Y.xe Kn u s:=by
 refine thn (hg _ s _ H x u _ I r (hG _ _ _ _ st)) λ_ s6 r9=>?_
 obtain⟨σ6,H6,I6,q6,l6,k6⟩:=r9
 have wk:∀(j:Nat) v,σ[j]?=some (some v)->σ6[j]?=some (some v):=λj v e=>(k6 j (h0 j v e)).trans e
 refine thn (ht _ s6 σ6 H6 _ I6 q6) λc s7 r9=>?_
 obtain⟨H7,I7,q7⟩:=r9
 cases c with
 |false=>exact hF _ _ (I7.weak l6.symm wk) q7
 |true=>exact thn (he _ s7 σ6 H7 _ I7 q7) λv8 s8 r9=>by obtain⟨y8,H8,I8,r8,n8⟩:=r9;exact hT _ _ _ _ (I8.weak l6.symm wk) r8 n8
theorem GU {scope:Scope}{pos:Pos}{Q:V->Hp->Prop}{R:Result->Shared->Prop}(hE:(notedBy (model Y.prog Y.w) Y.A Y.env λe s'=>R (.error e) s')=Y.xe)
  (T:Turn Y.prog Y.w Y.K tg J fp it tn)(hG:Ur n g)(hg:PG Y tg g)(ht:PTs Y ifs tt)(he:PE Y elt te)(a:CAt Y fp D)(h0:∀(j:Nat) v,σ[j]?=some (some v)->n<=j)
  {W:Nat->Nat->List V->Hp->Prop}(turn:EX g tt te σ Q J W)
  (hEnd:∀ys its k H3 s4,Inv Y [(D,lob its k)] σ H3 s4->XR ys its->ys.length<=sizeLine->Q (.ref D) (upd H3 D (.lst ys))->R (.ok .next) s4){m0:Nat}(hi:CI Y tn fp D σ W m0 s):
  codeAny (model Y.prog Y.w) Y.A (.compLoop (.ListComp elt [⟨tg,iter,ifs,0⟩] scope pos) 0 (.ref it) (.ref D) Y.env) R s:=by
 refine UL (CI Y tn fp D σ W) hE (λm s3 c=>?_) m0 hi
 cases c with
 |mk i H3 ys its k c rv w3=>
 have I3:Inv Y [(D,lob its k)] σ H3 s3:=c.I.pins_of λp hp=>List.mem_singleton.mp hp▸⟨c.l,c.n,a.ne,a.fs,λ_ z=>by cases z⟩
 have t:=turn i m ys H3 w3
 refine t.2.elim (λq=>?_) λq=>?_
 ·exact thn (T.done Y rfl rfl rfl a.calm i _ s3 _ H3 Y.xe I3 (a.pins c.f) c.t q.1) λr s4 h=>.inl ⟨h.1,hEnd ys its k H3 s4 h.2 rv t.1 (q.2 D c.n)⟩
 ·refine q.2.elim λNN h=>?_
  refine thn (T.item Y rfl rfl rfl a.calm i _ s3 _ H3 Y.xe I3 (a.pins c.f) c.t q.1) λr s4 h4=>.inr (h4.elim λu h4=>⟨u,h4.1,thn h4.2 λ_ s5 h5=>h5.elim λx h5=>h5.elim λH5 h5=>?_⟩)
  exact Bg hg ht he hG h0 (h5.1.pinned (a.pins h5.2.2.2.2) (T.obj _ _ h5.2.2.2.1)) h5.2.1 (h.2 x H5 h5.2.2.1)
   (λH7 s7 I7 q7=>(h.1 _ _ q7).elim λm' z=>⟨m',z.1, .mk (i+1) H7 ys its k (K2 T h5.2.2.2.1 I7) rv z.2⟩)
   λH8 s8 y v I8 r8 q8=>(h.1 _ _ q8).elim λm' z=>MY T a (K2 T h5.2.2.2.1 I8) (rv.length▸t.1) λk' s' c'=>⟨m',z.1, .mk (i+1) H8 (ys++[y]) (its++[v]) k' c' (rv.append (.cons r8 .nil)) z.2⟩
end
section
variable {X:Cx}{elt tg iter:Expr}{ifs:List Expr}{scope sc:Scope}{pos:Pos}{n:Nat}{tns:List Str}{caps:List (Nat×Str)}{wi:TI}{g:TG}{tt:TT}{te:TE}
structure CompEnd (X:Cx)(pins:List (Addr×Obj))(σ:St)(H3:Hp)(D C:Addr)(ys:List V)(s':Shared):Prop where
 inv:Inv X pins σ (upd H3 D (.lst ys)) s'
 fresh:H3 D=none
 fp:K9 X pins (upd H3 D (.lst ys)) C
 ns:∃m,s'.heap.Ns C m
theorem Bz {pins:List (Addr×Obj)}{σ σ':St}{H H3:Hp}{s s4:Shared}{D C:Addr}{fp:List Addr}{its:List Value}{k:Nat}{ys:List V}{Y:Cx}(I:Inv X pins σ H s)(hf:∀b∈fp,K9 X pins H b)(hD:s.heap.objs.size<=D)(hDlt:D<C)
  (I4:Inv Y [(D,lob its k)] σ' H3 s4)(hos:s4.os=s.os)(u:Un (frs X.stack) fp H H3 s.heap s4.heap)(hok:HOk X.prog X.w H3 s4.heap)(hC:Y.env.locals=C)(rv:XR ys its)(hz:ys.length<=sizeLine):CompEnd X pins σ H3 D C ys s4:=by
 subst hC
 have p:=I4.pin (D,lob its k) (List.mem_append_right _ (.head _))
 have hDn:H3 D=none:=p.2.1
 have up:∀{b:Addr}{o:HO},H3 b=some o->upd H3 D (.lst ys) b=some o:=λe=>(Xp (Xr e hDn)).trans e
 refine⟨I.call' (ch:=fp) hos ⟨u.keep,u.slot,λb o e nn hx=>(Xp (Nat.ne_of_lt (Nat.lt_of_lt_of_le (Heap.lt_size e) hD))).trans (u.free b o e nn hx),u.there,λb xs e=>up (u.tups b xs e),λb o xs e=>up (u.frzs b o xs e),λb ps e=>(u.tbls b ps e).elim λmore z=>⟨more,up z⟩⟩ (λa o e=>?_) I4.bare λb hb=>have z:=hf b hb;⟨z.2.2.2.1,z.2.1,z.2.2.2.2.1,z.2.2.2.2.2⟩,hDn,I.fpOk (Nat.le_trans hD (Nat.le_of_lt hDlt)) ((Xp (Nat.ne_of_gt hDlt)).trans I4.free),I4.loc.elim λm z=>⟨m,z.1⟩⟩
 by_cases ha:a=D
 ·subst ha
  rw[X2] at e;cases e
  exact⟨hz,its,k,rv,p.1⟩
 ·rw[Xp ha] at e
  exact(hok a o e).stay (λb u _ q=>q) (λb q=>up q) λb xs q=>up q
noncomputable def MZ (X:Cx)(elt tg iter:Expr)(ifs:List Expr)(scope:Scope)(pos:Pos)(it:Value)(cl:List (Str×Addr))(RR:Value->Addr->Result->Shared->Prop)(E:Value->Shared->Prop)(s:Shared):Prop:=
 wpAny (model X.prog X.w) X.A (newList []) (λacc s₃=>wpAny (model X.prog X.w) X.A (newFunctionEnv scope X.env.globals cl [] X.env.qual none .none (some X.env)) (λcenv s₄=>
   codeAny (model X.prog X.w) X.A (.compStart (.ListComp elt [⟨tg,iter,ifs,0⟩] scope pos) 0 it acc {cenv with scope:=relabel scope X.env}) (RR acc cenv.locals) s₄) E s₃) E s
theorem Kb {σ:St}{i:Nat}{v:V}(e:(QC n caps σ)[i]?=some (some v)):n<=i/\∃p,caps[i-n]?=some p/\σ[p.1]?=some (some v):=by
 unfold QC at e
 by_cases h:i<n
 ·rw[List.getElem?_append_left (by simpa using h),List.getElem?_replicate,if_pos h] at e
  cases e
 ·have hi:=Nat.le_of_not_lt h
  rw[List.getElem?_append_right (by simpa using hi),List.length_replicate,List.getElem?_map] at e
  refine⟨hi,?_⟩
  cases hcp:caps[i-n]? with
  |none=>rw[hcp] at e;cases e
  |some p=>
   rw[hcp] at e
   exact⟨p,rfl,Option.join_eq_some_iff.mp (Option.some.inj e)⟩
structure COk (X:Cx)(scope:Scope)(caps:List (Nat×Str)):Prop where
 kind:scope.kind= .function
 cell:∀y∈scope.names,y.2≠NameKind.cell
 loc:∀y∈scope.names,y.2= .local->scope.names.lookup y.1=some .local
 free:∀y∈scope.names,y.2= .free->X.env.scope.names.lookup y.1=some .cell
 caps:∀p∈caps,(X.N[p.1]?=some p.2/\X.env.scope.names.lookup p.2=some .cell)/\scope.names.lookup p.2=some .free
theorem COk.of {N0:List Str}(hsc:X.env.scope=sc)(hN0:X.N=N0)(ok:Kl sc scope N0 tns caps=true):COk X scope caps:=by
 subst hsc
 subst hN0
 unfold Kl at ok
 simp only[Bool.and_eq_true,List.all_eq_true,beq_iff_eq,Bool.or_eq_true,Bool.not_eq_true',beq_eq_false_iff_ne] at ok
 exact⟨ok.1.1.1.1,ok.1.1.1.2,λy hy e=>(ok.1.1.2 y hy).resolve_left (absurd e),λy hy e=>(ok.1.2 y hy).resolve_left (absurd e),ok.2⟩
section
variable {pins:List (Addr×Obj)}{σ:St}{H:Hp}{s:Shared}{fp:List Addr}{cl:List (Str×Addr)}{C:Addr}{E:Value->Shared->Prop}{N:List Str}{h₁:Heap}
theorem Ht (ok:COk X scope caps)(I:Inv X pins σ H s)(hf:∀b∈fp,K9 X pins H b)(hlt:∀b∈fp,b<s.heap.objs.size)
  (hsub:∀x c,cl.lookup x=some c->X.env.cells.lookup x=some c)(hall:∀x,(x,NameKind.free)∈scope.names->∃c,cl.lookup x=some c)(hC:s.heap.objs.size<C):(X.comp N scope cl C s H fp E).Ok:=
 ⟨I.ok.mod,ok.kind,I.ok.glob,I.ok.blt,Nat.le_of_lt hC,λx y c h1 h2=>I.ok.inj x y c (hsub x c h1) (hsub y c h2),λx hx=>hall x (hx.elim (λz=>Qm ok.cell z (.inl rfl)) λz=>Qm ok.cell z (.inr rfl)),(λx c hx=>by cases hx),I.ok.hd,I.ok.frames, .inl rfl,
  λb hb=>⟨Nat.ne_of_lt (Nat.lt_trans (hlt b hb) hC),λx c e=>(hf b hb).2.2.2.2.1 x c (hsub x c e)⟩,I.bs,Nat.le_trans I.ok.bsz I.sz,λb o e hb=>(hf b hb).2.2.2.1.elim (I.ok.noex b o e) λz=>absurd (Nat.lt_of_lt_of_le (Heap.lt_size e) (Nat.le_trans I.ok.bsz z)) (Nat.lt_irrefl _),
  λb hb hz=>(List.mem_cons.mp (I.stkSub b hz)).elim (hf b hb).2.1 (hf b hb).2.2.1,I.stack,I.stkFree⟩
theorem CW (okc:COk X scope caps)(hn:tns.length=n)(ok:(X.comp (tns++caps.map (·.2)) scope cl C s H fp E).Ok)(I:Inv X pins σ H s)
  (hsub:∀x c,cl.lookup x=some c->X.env.cells.lookup x=some c)(hall:∀x,(x,NameKind.free)∈scope.names->∃c,cl.lookup x=some c)(hC:s.heap.objs.size<C)(hns:h₁.Ns C λ_=>none)(old:∀b o,s.heap.get? b=some o->h₁.get? b=some o){tk:Nat}:
  Inv (X.comp (tns++caps.map (·.2)) scope cl C s H fp E) [] (QC n caps σ) H {s with heap:=h₁,toks:=tk}:=by
 refine⟨ok,rfl,I.bare,Un.kept old,⟨_,hns,λi x v e1 e2 _=>?_⟩,λx c e=>(I.cell x c (hsub x c e)).elim λv z=>z.elim λo z=>⟨v,o,old _ _ z.1,z.2⟩,I.hok.fresh (Nat.le_of_lt hC),λx c e=>I.freeC x c (hsub x c e),λp hp=>Ge (α:=Addr×Obj) hp,I.hok.kept old,by simp[QC,hn]⟩
 obtain⟨hi,p,hp,hσ⟩:=Kb e2
 have e1':(tns++caps.map (·.2))[i]?=some x:=e1
 rw[List.getElem?_append_right (hn▸hi),hn,List.getElem?_map,hp] at e1'
 cases Option.some.inj e1'
 have p5:=okc.caps p (List.mem_of_getElem? hp)
 obtain⟨m,hm,hl⟩:=I.loc
 obtain⟨u,r,l⟩:=hl p.1 p.2 v p5.1.1 hσ (.inr (.inl p5.1.2))
 refine⟨u,r, .inr ?_⟩
 rcases l with⟨k,_⟩ | ⟨k,c,e,z⟩
 ·cases p5.1.2.symm.trans k
 ·obtain⟨c',e'⟩:=hall p.2 (PySem.mem_of_lookup p5.2)
  cases e.symm.trans (hsub _ _ e')
  exact⟨QZ (env:=X.env) p5.2,c,e',z.elim λo z=>⟨o,old _ _ z.1,z.2⟩⟩
variable {J:It}{it:Addr}{tn:Nat->Heap->Prop}{Q:V->Hp->Prop}{RR:Value->Addr->Result->Shared->Prop}{W:Nat->Nat->List V->Hp->Prop}{m0:Nat}
theorem EY (ok:COk X scope caps)(hc:X.calm=true)(hn:tns.length=n)(hG:Ur n g)
  (hb:∀cl C s H ex E,PG (X.comp (tns++caps.map (·.2)) scope cl C s H ex E) tg g/\PTs (X.comp (tns++caps.map (·.2)) scope cl C s H ex E) ifs tt/\PE (X.comp (tns++caps.map (·.2)) scope cl C s H ex E) elt te)
  (I:Inv X pins σ H s)(T:Turn X.prog X.w X.K tg J fp it tn)(t0:tn 0 s.heap)(hf:∀b∈fp,K9 X pins H b)
  (hsub:∀x c,cl.lookup x=some c->X.env.cells.lookup x=some c)(hall:∀x,(x,NameKind.free)∈scope.names->∃c,cl.lookup x=some c)
  (w0:W 0 m0 [] H)(turn:EX g tt te (QC n caps σ) Q J W)
  (hRR:∀D C ys H3 s',CompEnd X pins σ H3 D C ys s'->Q (.ref D) (upd H3 D (.lst ys))->RR (.ref D) C (.ok .next) s')
  (hC:s.heap.objs.size<C)(hns:h₁.Ns C λ_=>none)(old:∀b o,s.heap.get? b=some o->h₁.get? b=some o)(hacc:h₁.get? s.heap.objs.size=some (lob [] 0)){tk:Nat}:
  codeAny (model X.prog X.w) X.A (.compStart (.ListComp elt [⟨tg,iter,ifs,0⟩] scope pos) 0 (.ref it) (.ref s.heap.objs.size) (compEnvC scope cl C X.env)) (RR (.ref s.heap.objs.size) C) {s with heap:=h₁,toks:=tk}:=by
 have hlt:∀b∈fp,b<s.heap.objs.size:=λb hb=>(T.obj _ _ t0 b hb).elim λo e=>Heap.lt_size e.1
 have okY:∀E,(X.comp (tns++caps.map (·.2)) scope cl C s H fp E).Ok:=λE=>Ht ok I hf hlt hsub hall hC
 have t1:tn 0 h₁:=T.keep _ _ _ t0 λb _ o e=>old b o e
 have loop:∀tk,codeAny (model X.prog X.w) X.A (.compLoop (.ListComp elt [⟨tg,iter,ifs,0⟩] scope pos) 0 (.ref it) (.ref s.heap.objs.size) (compEnvC scope cl C X.env)) (RR (.ref s.heap.objs.size) C) {s with heap:=h₁,toks:=tk}:=λtk=>
  have z:=hb cl C s H fp (notedBy (model X.prog X.w) X.A (compEnvC scope cl C X.env) λe s'=>RR (.ref s.heap.objs.size) C (.error e) s')
  GU (Y:=X.comp (tns++caps.map (·.2)) scope cl C s H fp _) rfl T hG z.1 z.2.1 z.2.2
   ⟨hc,rfl,Nat.ne_of_lt hC,λhz=>(I.stack.mem hz).2.elim λo ho=>absurd (Heap.lt_size ho.1) (Nat.lt_irrefl _),Nat.le_refl _,λx c e=>(I.cell x c (hsub x c e)).elim λv z=>Nat.ne_of_lt z.lt,λb hb=>Nat.ne_of_lt (hlt b hb),
    λb hb H' h'=>⟨h',Nat.ne_of_lt (Nat.lt_trans (hlt b hb) hC),(okY λ_ _=>True).exfs b hb, .inl hb,λx c e=>(hf b hb).2.2.2.2.1 x c (hsub x c e),λp hp=>Ge (α:=Addr×Obj) hp⟩⟩
   (λj v e=>(Kb e).1) turn (λys its k H3 s4 I4 rv hz q=>hRR _ C ys H3 s4 (Bz I hf (Nat.le_refl _) hC I4 I4.os I4.base I4.hok rfl rv hz) q)
   (.mk 0 H [] [] 0 ⟨CW ok hn (okY _) I hsub hall hC hns old,t1,λb hb=>(hf b hb).1,hacc,I.hok.fresh (Nat.le_refl _)⟩ .nil w0)
 exact codeAny_compStart_list (loop _) (T.self _ 0 _ _ _ t1 (loop _))
theorem Vs (ok:COk X scope caps)(hc:X.calm=true)(hn:tns.length=n)(hG:Ur n g)
  (hb:∀cl C s H ex E,PG (X.comp (tns++caps.map (·.2)) scope cl C s H ex E) tg g/\PTs (X.comp (tns++caps.map (·.2)) scope cl C s H ex E) ifs tt/\PE (X.comp (tns++caps.map (·.2)) scope cl C s H ex E) elt te)
  {itv:Value}(h:PIE X pins σ tg (λJ H1=>B9 n caps g tt te σ Q J H1) itv s)
  (hsub:∀x c,cl.lookup x=some c->X.env.cells.lookup x=some c)(hall:∀x,(x,NameKind.free)∈scope.names->∃c,cl.lookup x=some c)
  (hRR:∀D C ys H3 s',CompEnd X pins σ H3 D C ys s'->Q (.ref D) (upd H3 D (.lst ys))->RR (.ref D) C (.ok .next) s'):
  MZ X elt tg iter ifs scope pos itv cl RR E s:=by
 obtain⟨it,fp,tn,J,H',rfl,I,T,t0,hf,W,⟨m0,w0⟩,turn⟩:=h
 refine wpAny_newObj_type (wpAny_newFunctionEnv ok.cell (by intro y hy;simp at hy) (λh₁ hns₁ hsb₁=>?_) ok.kind)
 have hs:∀o,(s.heap.push o).objs.size=s.heap.objs.size+1:=λo=>Heap.size_push ..
 exact EY ok hc hn hG hb I T t0 hf hsub hall w0 turn hRR (Nat.lt_of_lt_of_eq (Nat.lt_succ_self _) (hs _).symm) hns₁
  (λb o e=>hsb₁.extBut b o (Nat.ne_of_lt (Nat.lt_trans (Heap.lt_size e) (Nat.lt_of_lt_of_eq (Nat.lt_succ_self _) (hs _).symm))) (Heap.get?_push_of_some _ (Heap.get?_push_of_some _ e)))
  (hsb₁.extBut _ _ (Nat.ne_of_lt (Nat.lt_of_lt_of_eq (Nat.lt_succ_self _) (hs _).symm)) (Heap.get?_push_of_some _ (Heap.get?_push_size _ rfl)))
end
theorem Hf (sc:Scope)(N0:List Str)(tns:List Str)(caps:List (Nat×Str))(hc:X.calm=true)(hi:PI X tg iter wi)(hG:Ur tns.length g)
  (hb:∀cl C s H ex E,PG (X.comp (tns++caps.map (·.2)) scope cl C s H ex E) tg g/\PTs (X.comp (tns++caps.map (·.2)) scope cl C s H ex E) ifs tt/\PE (X.comp (tns++caps.map (·.2)) scope cl C s H ex E) elt te)
  (hsc:X.env.scope=sc:=by rfl)(hN0:X.N=N0:=by rfl)(ok:Kl sc scope N0 tns caps=true:=by decide+kernel)
  (hs:∀x,foldedSetIterable iter X.env x=pure x:=by intro _;rfl):
  PE X (.ListComp elt [⟨tg,iter,ifs,0⟩] scope pos) (CK tns.length caps wi g tt te):=by
 intro pins s σ H Q I h
 have okc:=COk.of hsc hN0 ok
 obtain⟨cl,ecl,hsub,hall⟩:=F9 (scope:=scope) (env:=X.env) λx hx hfr=>I.ok.has x.1 (.inl (okc.free x hx hfr))
 rw[eval_ListComp]
 exact wpAny_comprehension_free (use:=none) rfl hs ecl okc.kind okc.loc (thn (hi pins s σ H _ I h) λxv s₁ h₁=>thn h₁ λitv s₂ h₂=>
  Vs (RR:=λacc C=>compPost (model X.prog X.w) X.A X.xe none (EP X pins σ Q) acc C) okc hc rfl hG hb h₂ hsub hall λD C ys H3 s' ce q=>ce.ns.elim λmm hns=>
   ⟨mm,hns,λh' hs'=>⟨.ref D,_,ce.inv.turned (t':=s'.toks) (λb o hb' e=>(hs'.extBut b o hb' e)) ce.fp.1 ce.fp.2.1 ce.fp.2.2.2.1 ce.fp.2.2.2.2.1 ce.fp.2.2.2.2.2,rfl,q⟩⟩)
theorem HY {x:Str}{px spos:Pos}(j:Nat)(sc:Scope)(N0:List Str)(tns:List Str)(caps:List (Nat×Str))(hc:X.calm=true)(hN:X.N.Nodup)(hj:X.N[j]?=some x)(hx:X.env.scope.names.lookup x=some .local)(hi:PI X tg iter wi)(hG:Ur tns.length g)
  (hb:∀cl C s H ex E,PG (X.comp (tns++caps.map (·.2)) scope cl C s H ex E) tg g/\PTs (X.comp (tns++caps.map (·.2)) scope cl C s H ex E) ifs tt/\PE (X.comp (tns++caps.map (·.2)) scope cl C s H ex E) elt te)
  (hsc:X.env.scope=sc:=by rfl)(hN0:X.N=N0:=by rfl)(ok:Kl sc scope N0 tns caps=true:=by decide+kernel)
  (hsw:swapsWith (.ListComp elt [⟨tg,iter,ifs,0⟩] scope pos) (some (.Name x px)) spos.line X.env=pure true:=by rfl)
  (hs:∀x,foldedSetIterable iter X.env x=pure x:=by intro _;rfl):
  PS X (.Assign [.Name x px] (.ListComp elt [⟨tg,iter,ifs,0⟩] scope pos) spos) (Ed (CK tns.length caps wi g tt te) (Ql j)):=by
 intro pins s σ H D I h
 have okc:=COk.of hsc hN0 ok
 obtain⟨cl,ecl,hsub,hall⟩:=F9 (scope:=scope) (env:=X.env) λx hx hfr=>I.ok.has x.1 (.inl (okc.free x hx hfr))
 rw[exec_Assign_Name_used _ _ _ _ hsw]
 refine wpAny_bind (wpAny_standAt (wpAny_bind ?_))
 show wpAny _ _ (do let _ ←comprehension (.ListComp elt [⟨tg,iter,ifs,0⟩] scope pos) scope X.env _ (newList []) false (eval iter X.env) (some (assign (.Name x px) X.env))) _ _ s
 refine wpAny_bind (thn (wpAny_comprehension_free (use:=some (assign (.Name x px) X.env)) (Q:=λ_ s'=>SP X pins D .next s') rfl hs ecl okc.kind okc.loc
  (thn (hi pins s σ H _ I h) λxv s₁ h₁=>thn h₁ λitv s₂ h₂=>?_)) λ_ s' hq=>wpAny_pure (wpAny_pure hq))
 refine Vs (Q:=λv H1=>Ql j v σ H1 D.nx) (RR:=λacc C=>compPost (model X.prog X.w) X.A X.xe (some (assign (.Name x px) X.env)) (λ_ s'=>SP X pins D .next s') acc C) okc hc rfl hG hb h₂ hsub hall ?_
 intro DD C ys H3 s' ce q
 obtain⟨mm,hns⟩:=ce.ns
 obtain⟨c0,c1,c2,c3,c4,c5⟩:=ce.fp
 show wpAny _ _ (assign (.Name x px) X.env (.ref DD)) _ _ _
 refine wpAny_assign_Name (UI ce.inv hN hj (.inl hx) (v:=.ref DD) rfl (λs2 I2 chg=>?_) (.inr hx))
 obtain⟨c,hsb,hcc⟩:=chg
 have hCc:C≠c:=by
  rcases hcc with z |z
  ·rw[z];exact c1
  ·exact λe=>c4 x c z e.symm
 refine⟨mm,?_,λh' hs'=>?_⟩
 ·obtain⟨o,es,ep,ho,r⟩:=hns
  exact⟨o,es,ep,(hsb.2 C hCc).trans ho,r⟩
 ·exact⟨_,_,I2.turned (t':=s2.toks) (λb o hb' e=>(hs'.extBut b o hb' e)) c0 c1 c3 c4 c5,q⟩
end
section
variable {K:PySem.W.Frag}{a:Addr}{xs:List V}{n:Nat}{caps:List (Nat×Str)}{g:TG}{tt:TT}{te:TE}{σ:St}{H:Hp}{Q:V->Hp->Prop}
end
section
variable {X:Cx}{pos:Pos}
noncomputable def DZ (K:PySem.W.Frag):List V->Hp->VK->Prop:=λxs H Q=>∃ p ys,xs=[.ref p]/\(SqL K H p ys∨SqT K H p ys)/\∀l,H l=none->Q (.ref l) (upd H l (.lst ys))
noncomputable def UG (K:PySem.W.Frag):List V->Hp->VK->Prop:=λxs H Q=>∃ p ys,xs=[.ref p]/\(SqL K H p ys∨SqT K H p ys)/\Q (.int ys.length) H
theorem ZG (K:PySem.W.Frag)(h:X.K=K):ZJ X (.type "list") (DZ K):=by subst h;exact U4
theorem Xx (K:PySem.W.Frag)(h:X.K=K):ZJ X (.builtin "len") (UG K):=by subst h;exact UE
theorem XB (K:PySem.W.Frag)(h:X.K=K):IxR X (IW K):=by subst h;exact HM
theorem XG (K:PySem.W.Frag)(h:X.K=K):IxR X (CN K):=by subst h;exact Lx
theorem CY (K:PySem.W.Frag)(h:X.K=K):SlR X (LZ K):=by subst h;exact EZ
theorem Da (K:PySem.W.Frag)(h:X.K=K){es:List Expr}{k:Nat}{t:TGs}{n:Nat}(hc:X.calm=true)(hh:PGs X es t)
  (hn:(assignEach es X.env).length=n:=by rfl)(hst:(assignEach es X.env).findIdx? (·.1)=none:=by rfl):PG X (.Tuple es k pos) (LJ K n t):=by subst h;exact Vj hc hh hn hst
end
structure Fn (P:Program)(w:World)(K:PySem.W.Frag)(mg:Str->Option Value)(base:Heap)(k:Nat)(x:Str)(ps:List Str)(sp:Sp):Prop where
 ex:∃f fd,FnOk P w K mg base CX0 k f fd ps sp/\UA K fd ps []/\PySem.W.keepIn K (.ref f)=true/\mg x=some (.ref f)
section
variable {X:Cx}{k j:Nat}{x:Str}{ps:List Str}{sp:Sp}{e:Expr}{es:List Expr}{t:TA}{p pos:Pos}
theorem YF (G:Fn X.prog X.w X.K X.mg X.base k x ps sp)(hr:Room j X.A)(hj:k<=j)(ha:PA X (e::es) t)(hg:Gl X x:=by rfl)(hdb:(x==("__debug__":Str))=false:=by decide)
  (he:starEach (e::es) X.env=(false,eval e X.env)::starEach es X.env:=by rfl)(hpl:(backTo pos (starEach es X.env)).any (·.1)=false:=by rfl):
  PE X (.Call (.Name x p) (e::es) [] pos) (U5 sp [] E0 t):=by
 obtain⟨f,fd,F,b,kp,m⟩:=G.ex
 exact Di F (hr.mono hj) hg m kp b .nil L8 ha hdb he hpl
end
noncomputable def Def (K:PySem.W.Frag)(mg:Str->Option Value)(x:Str)(st:Stmt)(ps:List Str):Prop:=∃ f fd,Fun K x x st f fd/\UA K fd ps []/\mg x=some (.ref f)
theorem Zi {P:Program}{w:World}{K:PySem.W.Frag}{mg:Str->Option Value}{base:Heap}{x:Str}{st:Stmt}{N ps:List Str}{k:Nat}{sp:Sp}(D:Def K mg x st ps)(S:FnScope N ps (Xi st))(len:∀vs H Q E,sp vs H Q E->vs.length=ps.length)
  (hbody:∀(f:Addr) (cdv:Value) (A:Around) (outer:List Env) (s:Shared) (H:Hp) (vs:List V) (Q:VK) (E:XK),Room k (A.deeper (envOfC x (Xi st) s.heap.objs.size f cdv))->sp vs H Q E->
   ∃t,PSs (Fe CX0 P w K mg base N x (Xi st) f cdv A outer s H E).nox (Yo st) t/\t {nx:=λ_ H'=>Q .non H',rt:=Q} (Vc N vs) H):Fn P w K mg base (k+1) x ps sp:=by
 obtain⟨f,fd,F,b,m⟩:=D
 exact⟨f,fd,F.ok S len (hbody f),b,F.kp,m⟩
theorem Fa {a d c:Nat}(h:d<=8)(hu:a+8<c):a+d<c:=by omega
theorem Yl {H:Hp}{p:Addr}(h:H p=none)(o:HO):Xo H (upd H p o):=λb u q=>by rw[Xp (Xr q h)];exact q
theorem Xo.own {H H2:Hp}{p:Addr}(s:Xo H H2)(h:H p=none)(o:HO):Xo H (upd H2 p o):=λb u q=>by rw[Xp (Xr q h)];exact s b u q
theorem Xo.new {H H2:Hp}{p:Addr}(s:Xo H H2)(h:H2 p=none)(o:HO):Xo H (upd H2 p o):=s.trans (Yl h o)
theorem Xo.seqT {K:PySem.W.Frag}{H H':Hp}{a:Addr}{xs:List V}(e:Xo H H')(h:SqT K H a xs):SqT K H' a xs:=by
 rcases h with(h | ⟨o,h⟩) |h
 ·exact .inl (.inl (e _ _ h))
 ·exact .inl (.inr ⟨o,e _ _ h⟩)
 ·exact .inr h
theorem hu8 {A:Around}{k:Nat}(hr:Room k A):A.units+8<cLine:=Nat.lt_of_le_of_lt (Nat.add_le_add_left (by decide:8<=64) _) hr.units
noncomputable abbrev Enc (α:Type):=PySem.W.Frag->Hp->V->α->Prop
noncomputable def Xb:Enc Int:=λ_ _ v i=>v= .int i
noncomputable def rL {α:Type}(r:Enc α):Enc (List α):=λK H v as=>∃ a xs,v= .ref a/\SqL K H a xs/\Paired (r K H) xs as
noncomputable def rT2 {α β:Type}(r:Enc α)(q:Enc β):Enc (α×β):=λK H v p=>∃ a x y,v= .ref a/\SqT K H a [x,y]/\r K H x p.1/\q K H y p.2
theorem Paired.getL {α β:Type}{F:α->β->Prop}:∀{l:List α}{m:List β}{i:Nat}{a:α},Paired F l m->l[i]?=some a->∃b,m[i]?=some b/\F a b
 |_,_,_,_, .nil,e=>by simp at e
 |_,_,0,_, .cons r _,e=>by simp at e;subst e;exact⟨_,rfl,r⟩
 |_,_,i+1,a, .cons _ t,e=>by
  obtain⟨b,h1,h2⟩:=Paired.getL (i:=i) (a:=a) t (by simpa using e)
  exact⟨b,by simpa using h1,h2⟩
theorem Paired.getR {α β:Type}{F:α->β->Prop}:∀{l:List α}{m:List β}{i:Nat}{b:β},Paired F l m->m[i]?=some b->∃a,l[i]?=some a/\F a b
 |_,_,_,_, .nil,e=>by simp at e
 |_,_,0,_, .cons r _,e=>by simp at e;subst e;exact⟨_,rfl,r⟩
 |_,_,i+1,b, .cons _ t,e=>by
  obtain⟨a,h1,h2⟩:=Paired.getR (i:=i) (b:=b) t (by simpa using e)
  exact⟨a,by simpa using h1,h2⟩
theorem Paired.of_map {α β γ:Type}{F:β->γ->Prop}(f:α->β):∀{l:List α}{m:List γ},Paired (λa c=>F (f a) c) l m->Paired F (l.map f) m
 |_,_, .nil=>.nil
 |_,_, .cons r t=>.cons r (Paired.of_map f t)
theorem Paired.len {α β:Type}{F:α->β->Prop}{l:List α}{m:List β}(h:Paired F l m):l.length=m.length:=Paired.length h
theorem Paired.app {α β:Type}{F:α->β->Prop}:∀{l l':List α}{m m':List β},Paired F l m->Paired F l' m'->Paired F (l++l') (m++m'):=λp h=>by
 induction p with
 |nil=>exact h
 |cons r _ ih=>exact .cons r ih
theorem K0 (ns:List Int):∀{K:PySem.W.Frag}{H:Hp},Paired (Xb K H) (ns.map V.int) ns:=by
 intro K H
 induction ns with
 |nil=>exact .nil
 |cons n r ih=>exact .cons rfl ih
structure EqOk {α:Type}[DecidableEq α](r:Enc α)(d:Nat):Prop where
 uniq:∀{X:Cx}{pins:List (Addr×Obj)}{σ:St}{H:Hp}{s:Shared}{x:V}{a b:α},Inv X pins σ H s->r X.K H x a->r X.K H x b->a=b
 eq:∀{X:Cx}{pins:List (Addr×Obj)}{σ:St}{H:Hp}{s:Shared}{x y:V}{v u:Value}{a b:α}{A:Around},Inv X pins σ H s->XW x v->XW y u->r X.K H x a->r X.K H y b->A.units+d<cLine->SeqAt.EqAt A s v u (decide (a=b))
 rc:∀{X:Cx}{pins:List (Addr×Obj)}{σ:St}{H:Hp}{s:Shared}{x y:V}{v u:Value}{a b:α}{A:Around},Inv X pins σ H s->XW x v->XW y u->r X.K H x a->r X.K H y b->A.units+d<cLine->SeqAt.RcAt A s v u (decide (a=b))
 ne:∀{X:Cx}{pins:List (Addr×Obj)}{σ:St}{H:Hp}{s:Shared}{x y:V}{v u:Value}{a b:α}{A:Around},Inv X pins σ H s->XW x v->XW y u->r X.K H x a->r X.K H y b->A.units+d<cLine->SeqAt.RcNeAt A s v u (!decide (a=b))
 keep:∀{K:PySem.W.Frag}{H H':Hp}{x:V}{a:α},Xo H H'->r K H x a->r K H' x a
theorem EqOk.up {α:Type}[DecidableEq α]{r:Enc α}{d e:Nat}(E:EqOk r d)(h:d<=e):EqOk r e:=
 ⟨E.uniq,λI rx ry h1 h2 hu=>E.eq I rx ry h1 h2 (by omega),λI rx ry h1 h2 hu=>E.rc I rx ry h1 h2 (by omega),λI rx ry h1 h2 hu=>E.ne I rx ry h1 h2 (by omega),E.keep⟩
theorem YH (A:Around):A.in1.units=A.units+1:=rfl
theorem BJ {a b:Int}:(a==b)=decide (a=b):=by rw[Bool.eq_iff_iff];simp
theorem eq_int:EqOk Xb 0 where
 uniq:=λ_ h1 h2=>by
  have h1':_=V.int _:=h1
  have h2':_=V.int _:=h2
  rw[h1'] at h2';injection h2'
 eq:=fun {X pins σ H s x y v u a b A} I rx ry h1 h2 _=>by
  have h1':x=V.int a:=h1
  have h2':y=V.int b:=h2
  subst h1' h2'
  obtain⟨t,rfl⟩:=rx
  obtain⟨t',rfl⟩:=ry
  rw[←BJ];exact SeqAt.EqAt.int_int a t b t'
 rc:=fun {X pins σ H s x y v u a b A} I rx ry h1 h2 _=>by
  have h1':x=V.int a:=h1
  have h2':y=V.int b:=h2
  subst h1' h2'
  obtain⟨t,rfl⟩:=rx
  obtain⟨t',rfl⟩:=ry
  rw[←BJ];exact SeqAt.RcAt.int_int a t b t'
 ne:=fun {X pins σ H s x y v u a b A} I rx ry h1 h2 _=>by
  have h1':x=V.int a:=h1
  have h2':y=V.int b:=h2
  subst h1' h2'
  obtain⟨t,rfl⟩:=rx
  obtain⟨t',rfl⟩:=ry
  rw[←BJ];exact SeqAt.RcNeAt.int_int a t b t'
 keep:=λ_ h=>h
theorem FQ {α:Type}[DecidableEq α]{as bs:List α}(h:as.length=bs.length):(List.range as.length).all (λj=>decide (as[j]?=bs[j]?))=decide (as=bs):=by
 rw[Bool.eq_iff_iff]
 simp only[List.all_eq_true,List.mem_range,decide_eq_true_eq]
 constructor
 ·intro hh
  apply List.ext_getElem?
  intro i
  by_cases hi:i<as.length
  ·exact hh i hi
  ·rw[List.getElem?_eq_none (by omega),List.getElem?_eq_none (by omega)]
 ·rintro rfl;intros;rfl
theorem Paired.uniq {α β:Type}{F:α->β->Prop}(hu:∀a b c,F a b->F a c->b=c):∀{l:List α}{m m':List β},Paired F l m->Paired F l m'->m=m':=fun {l m m'} p=>by
 induction p generalizing m' with
 |nil=>intro q;cases q;rfl
 |cons r _ ih=>intro q;cases q with |cons r' t'=>rw[hu _ _ _ r r',ih t']
theorem Paired.imp2 {α β:Type}{F G:α->β->Prop}(h:∀a b,F a b->G a b):∀{l:List α}{m:List β},Paired F l m->Paired G l m:=λp=>by
 induction p with
 |nil=>exact .nil
 |cons r _ ih=>exact .cons (h _ _ r) ih
section
variable {α:Type}[DecidableEq α]{r:Enc α}{d:Nat}
theorem VA (E:EqOk r d){X:Cx}{pins:List (Addr×Obj)}{σ:St}{H:Hp}{s:Shared}{A:Around}(I:Inv X pins σ H s)(hu:A.units+(d+1)<cLine){xs ys:List V}{as bs:List α}{its its2:List Value}
  (r1:XR xs its)(r2:XR ys its2)(p1:Paired (r X.K H) xs as)(p2:Paired (r X.K H) ys bs):
  ∀j (h1:j<its.toArray.size) (h2:j<its2.toArray.size),SeqAt.EqAt A.in1 s its.toArray[j] its2.toArray[j] (decide (as[j]?=bs[j]?)):=by
 intro j h1 h2
 have h1':j<its.length:=by simpa using h1
 have h2':j<its2.length:=by simpa using h2
 obtain⟨x,ex,rx⟩:=Paired.getR (i:=j) (b:=its[j]) r1 (by simp[h1'])
 obtain⟨y,ey,ry⟩:=Paired.getR (i:=j) (b:=its2[j]) r2 (by simp[h2'])
 obtain⟨a,ea,ra⟩:=Paired.getL p1 ex
 obtain⟨b,eb,rb⟩:=Paired.getL p2 ey
 have:=E.eq (A:=A.in1) I rx ry ra rb (by rw[YH];omega)
 rw[ea,eb]
 simpa using this
theorem EI (E:EqOk r d):EqOk (rL r) (d+1):=by
 have un:∀{X:Cx}{pins:List (Addr×Obj)}{σ:St}{H:Hp}{s:Shared}{x:V}{a b:List α},Inv X pins σ H s->rL r X.K H x a->rL r X.K H x b->a=b:=by
  intro X pins σ H s x as bs I h1 h2
  obtain⟨a,xs,rfl,q1,p1⟩:=h1
  obtain⟨b,ys,e,q2,p2⟩:=h2
  cases e
  cases I.list_inj q1 q2
  exact Paired.uniq (F:=r X.K H) (λ_ _ _ z z'=>E.uniq I z z') p1 p2
 have rc:∀{X:Cx}{pins:List (Addr×Obj)}{σ:St}{H:Hp}{s:Shared}{x y:V}{v u:Value}{a b:List α}{A:Around},Inv X pins σ H s->XW x v->XW y u->rL r X.K H x a->rL r X.K H y b->A.units+(d+1)<cLine->SeqAt.RcAt A s v u (decide (a=b)):=by
  intro X pins σ H s x y v u as bs A I rx ry h1 h2 hu
  obtain⟨a,xs,rfl,q1,p1⟩:=h1
  obtain⟨b,ys,rfl,q2,p2⟩:=h2
  cases rx;cases ry
  obtain⟨its,r1,l1,_⟩:=I.list q1
  obtain⟨its2,r2,l2,_⟩:=I.list q2
  have n1:=r1.length
  have n2:=r2.length
  have m1:=Paired.len p1
  have m2:=Paired.len p2
  by_cases hl:as.length=bs.length
  ·have:=SeqAt.RcAt.lists (A:=A) (e:=λj=>decide (as[j]?=bs[j]?)) l1.isList l2.isList (by simp only[List.size_toArray];omega) (by omega) (VA E I hu r1 r2 p1 p2)
   rw[show its.toArray.size=as.length by simp only[List.size_toArray];omega,FQ hl] at this
   exact this
  ·rw[decide_eq_false (λe=>hl (congrArg List.length e))]
   exact SeqAt.RcAt.lists_lengths l1.isList l2.isList (by simp only[List.size_toArray,bne_iff_ne];omega) (by omega)
 refine⟨un,?_,rc,?_,?_⟩
 ·intro X pins σ H s x y v u as bs A I rx ry h1 h2 hu
  obtain⟨a,xs,rfl,q1,p1⟩:=id h1
  obtain⟨b,ys,rfl,q2,p2⟩:=id h2
  have R:=rc (A:=A) I rx ry h1 h2 hu
  cases rx;cases ry
  by_cases e:a=b
  ·subst e
   rw[decide_eq_true (un I h1 h2)]
   exact SeqAt.EqAt.same _
  ·exact SeqAt.EqAt.of_refs e R
 ·intro X pins σ H s x y v u as bs A I rx ry h1 h2 hu
  obtain⟨a,xs,rfl,q1,p1⟩:=h1
  obtain⟨b,ys,rfl,q2,p2⟩:=h2
  cases rx;cases ry
  obtain⟨its,r1,l1,_⟩:=I.list q1
  obtain⟨its2,r2,l2,_⟩:=I.list q2
  have n1:=r1.length
  have n2:=r2.length
  have m1:=Paired.len p1
  have m2:=Paired.len p2
  by_cases hl:as.length=bs.length
  ·have:=SeqAt.RcNeAt.lists (A:=A) (e:=λj=>decide (as[j]?=bs[j]?)) l1.isList l2.isList (by simp only[List.size_toArray];omega) (by omega) (VA E I hu r1 r2 p1 p2)
   rw[show its.toArray.size=as.length by simp only[List.size_toArray];omega,FQ hl] at this
   exact this
  ·rw[decide_eq_false (λe=>hl (congrArg List.length e))]
   exact SeqAt.RcNeAt.lists_lengths l1.isList l2.isList (by simp only[List.size_toArray,bne_iff_ne];omega) (by omega)
 ·intro K H H' x as e h
  obtain⟨a,xs,rfl,q1,p1⟩:=h
  exact⟨a,xs,rfl,e.seq q1,Paired.imp2 (λ_ _ z=>E.keep e z) p1⟩
end
section
variable {α β:Type}[DecidableEq α][DecidableEq β]{r:Enc α}{q:Enc β}{d:Nat}
theorem Gz {a1 a2:α}{b1 b2:β}:(decide (a1=a2)&&decide (b1=b2))=decide ((a1,b1)=(a2,b2)):=by
 rw[Bool.eq_iff_iff];simp
theorem Hq (E:EqOk r d)(F:EqOk q d):EqOk (rT2 r q) (d+1):=by
 have un:∀{X:Cx}{pins:List (Addr×Obj)}{σ:St}{H:Hp}{s:Shared}{x:V}{a b:α×β},Inv X pins σ H s->rT2 r q X.K H x a->rT2 r q X.K H x b->a=b:=by
  rintro X pins σ H s x ⟨a1,a2⟩ ⟨b1,b2⟩ I h1 h2
  obtain⟨a,x1,x2,rfl,q1,p1,p2⟩:=h1
  obtain⟨b,y1,y2,e,q2,p3,p4⟩:=h2
  cases e
  cases I.tuple_inj q1 q2
  rw[show a1=b1 from E.uniq I p1 p3,show a2=b2 from F.uniq I p2 p4]
 have its:∀{X:Cx}{pins:List (Addr×Obj)}{σ:St}{H:Hp}{s:Shared}{x1 x2 y1 y2:V}{u1 u2 w1 w2:Value}{a b:α×β}{A:Around},Inv X pins σ H s->XW x1 u1->XW x2 u2->XW y1 w1->XW y2 w2->
   r X.K H x1 a.1->q X.K H x2 a.2->r X.K H y1 b.1->q X.K H y2 b.2->A.units+(d+1)<cLine->
   ∀j (h1:j< [u1,u2].toArray.size) (h2:j< [w1,w2].toArray.size),SeqAt.EqAt A.in1 s [u1,u2].toArray[j] [w1,w2].toArray[j] ((λj=>if j=0 then decide (a.1=b.1) else decide (a.2=b.2)) j):=by
  intro X pins σ H s x1 x2 y1 y2 u1 u2 w1 w2 a b A I e1 e2 e3 e4 p1 p2 p3 p4 hu j h1 h2
  have hj:j=0∨j=1:=by
   have h1':j<2:=h1
   omega
  rcases hj with rfl |rfl
  ·exact E.eq (A:=A.in1) I e1 e3 p1 p3 (by rw[YH];omega)
  ·exact F.eq (A:=A.in1) I e2 e4 p2 p4 (by rw[YH];omega)
 have rc:∀{X:Cx}{pins:List (Addr×Obj)}{σ:St}{H:Hp}{s:Shared}{x y:V}{v u:Value}{a b:α×β}{A:Around},Inv X pins σ H s->XW x v->XW y u->rT2 r q X.K H x a->rT2 r q X.K H y b->A.units+(d+1)<cLine->SeqAt.RcAt A s v u (decide (a=b)):=by
  rintro X pins σ H s x y v u ⟨a1,a2⟩ ⟨b1,b2⟩ A I rx ry h1 h2 hu
  obtain⟨a,x1,x2,rfl,q1,p1,p2⟩:=h1
  obtain⟨b,y1,y2,rfl,q2,p3,p4⟩:=h2
  cases rx;cases ry
  obtain⟨i1,r1,l1,_⟩:=I.tuple q1
  obtain⟨i2,r2,l2,_⟩:=I.tuple q2
  obtain⟨u1,u2,rfl,e1,e2⟩:=XR.two r1
  obtain⟨w1,w2,rfl,e3,e4⟩:=XR.two r2
  have:=SeqAt.RcAt.tuples (A:=A) l1 l2 (by omega) (its (a:=(a1,a2)) (b:=(b1,b2)) I e1 e2 e3 e4 p1 p2 p3 p4 hu)
  rw[←Gz]
  simpa[List.range_succ] using this
 refine⟨un,?_,rc,?_,?_⟩
 ·intro X pins σ H s x y v u as bs A I rx ry h1 h2 hu
  obtain⟨a,x1,x2,rfl,q1,p1,p2⟩:=id h1
  obtain⟨b,y1,y2,rfl,q2,p3,p4⟩:=id h2
  have R:=rc (A:=A) I rx ry h1 h2 hu
  cases rx;cases ry
  by_cases e:a=b
  ·subst e
   rw[decide_eq_true (un I h1 h2)]
   exact SeqAt.EqAt.same _
  ·exact SeqAt.EqAt.of_refs e R
 ·rintro X pins σ H s x y v u ⟨a1,a2⟩ ⟨b1,b2⟩ A I rx ry h1 h2 hu
  obtain⟨a,x1,x2,rfl,q1,p1,p2⟩:=h1
  obtain⟨b,y1,y2,rfl,q2,p3,p4⟩:=h2
  cases rx;cases ry
  obtain⟨i1,r1,l1,_⟩:=I.tuple q1
  obtain⟨i2,r2,l2,_⟩:=I.tuple q2
  obtain⟨u1,u2,rfl,e1,e2⟩:=XR.two r1
  obtain⟨w1,w2,rfl,e3,e4⟩:=XR.two r2
  have:=SeqAt.RcNeAt.tuples (A:=A) l1 l2 (by omega) (its (a:=(a1,a2)) (b:=(b1,b2)) I e1 e2 e3 e4 p1 p2 p3 p4 hu)
  rw[←Gz]
  simpa[List.range_succ] using this
 ·intro K H H' x as e h
  obtain⟨a,x1,x2,rfl,q1,p1,p2⟩:=h
  exact⟨a,x1,x2,rfl,e.seqT q1,E.keep e p1,F.keep e p2⟩
end
section
variable {X:Cx}{α:Type}[DecidableEq α]{r:Enc α}{d:Nat}
noncomputable def MC (K:PySem.W.Frag)(r:Enc α):R2:=λx y H Q=>∃ a b,r K H x a/\r K H y b/\Q (.bl (decide (a=b))) H
noncomputable def ME (K:PySem.W.Frag)(r:Enc α):R2:=λx y H Q=>∃ a b,r K H x a/\r K H y b/\Q (.bl (!decide (a=b))) H
theorem Du (E:EqOk r d)(hu:X.A.units+d<cLine):OpR X (compareOp .Eq) (MC X.K r):=by
 intro pins s σ H x y v u Q I rx ry h
 obtain⟨a,b,h1,h2,q⟩:=h
 exact E.rc (A:=X.A) I rx ry h1 h2 hu _ _ _ _ ⟨.bl _,H,I,rfl,q⟩
theorem B8 (E:EqOk r d)(hu:X.A.units+d<cLine):OpR X (compareOp .NotEq) (ME X.K r):=by
 intro pins s σ H x y v u Q I rx ry h
 obtain⟨a,b,h1,h2,q⟩:=h
 exact E.ne (A:=X.A) I rx ry h1 h2 hu _ _ _ _ ⟨.bl _,H,I,rfl,q⟩
theorem Yn:ZJ X (.builtin "isinstance") (λxs H Q=>∃ x n t b,xs=[x, .ty n]/\TyOf X.K H x t/\PySem.W.kitOne X.K t (.type n)=some b/\Q (.bl b) H):=by
 intro pins s σ H xs us Q I r h
 obtain⟨x,n,t,b,rfl,ty,e,q⟩:=h
 obtain⟨u,v,rfl,ru,rv⟩:=XR.two r
 cases(show v=Value.type n from rv)
 exact FH I ru ty e λtk=>⟨.bl b,H,I.tok tk,rfl,q⟩
theorem Ga:OpR X (binaryOp .FloorDiv) (rI (λ_ j=>0<j/\j.natAbs.log2<9000) λi j=>.int (i/j)):=opI λi j _ _ _ _ _ hc q=>by
 refine floordiv_int (by omega) ?_ (.inl (PyProof.noPylong_of_log2 hc.2))
 rw[Int.fdiv_eq_ediv_of_nonneg i (by omega)]
 exact q
end
end L2
namespace PySem
open Sem (wp)
section
variable {prog:Program}{w:World}{A:Around}{E:Value->Shared->Prop}{s:Shared}
end
end PySem
namespace L2
open PySem PySem.Spec PyProof.Rows
section
variable {X:Cx}{e:Expr}{te:TE}
end
section
variable {X:Cx}{pins:List (Addr×Obj)}{σ:St}{H:Hp}{s:Shared}{h':Heap}
theorem Inv.turnLay {t':Nat}{ch:List Addr}{T:Addr}{u:HO}(I:Inv X pins σ H s)(k:∀b o,b∉ch->s.heap.get? b=some o->h'.get? b=some o)(hf:∀b∈ch,K9 X pins H b)
  (hp:s.heap.objs.size<=T)(new:Ym X.prog X.w (upd H T u) h' T u):Inv X pins σ (upd H T u) {s with heap:=h',toks:=t'}:=by
 have hn:H T=none:=I.hok.fresh hp
 have nit:∀b o,H b=some o->b∉ch:=λb o e z=>by rw[(hf b z).1] at e;cases e
 refine I.step (g':=s.gens) (d':=s.drawn) (ch:=ch) (λb hb=>?_) (λb o _ _ hc e _=>k b o hc e) (λb o _ _ hc e _=>⟨o.slots,k b o hc e⟩)
  (λb o _ e n=>by rw[Xp (Nat.ne_of_lt (Nat.lt_of_lt_of_le (Heap.lt_size e) hp))];exact n)
  (λb o hc e=>⟨o,k b o hc e⟩) (λb xs e=>by rw[Xp (Xr e hn)];exact e) (λb o xs e=>by rw[Xp (Xr e hn)];exact e) (λb ps e=>⟨#[],by rw[Xp (Xr e hn),e];simp⟩) (λm hm=>?_) (λb v e=>?_) I.bare
 ·obtain⟨f0,f1,f2,f3,f4,f5⟩:=hf b hb
  exact⟨f3,f1,f4,f5⟩
 ·obtain⟨o,es,ep,ho,r⟩:=hm
  exact⟨o,es,ep,k _ o (λz=>(hf _ z).2.1 rfl) ho,r⟩
 ·by_cases hb:b=T
  ·subst hb;rw[X2] at e;cases e;exact new
  ·rw[Xp hb] at e
   refine(I.hok b v e).stay (λc o hc q=>k c o ?_ q) (λc q=>by rw[Xp (Xr q hn)];exact q) λc xs q=>by rw[Xp (Xr q hn)];exact q
   rcases hc with z |z
   ·rw[z];exact nit b v e
   ·exact nit c _ z
end
noncomputable def Ite (K:PySem.W.Frag)(a:Addr):It:=
 ⟨λi H=>∃ xs x,SqL K H a xs/\xs[i]?=some x,λi H y H'=>∃ p x,y= .ref p/\H p=none/\H'=upd H p (.tup [.int (i:Int),x])/\∀xs,SqL K H a xs->xs[i]?=some x,λi H=>∃ xs,SqL K H a xs/\xs.length<=i⟩
theorem Ck {P:Program}{w:World}{K:PySem.W.Frag}{elts:List Expr}{k:Nat}{pos:Pos}(a e it:Addr)(h1:e≠it)(h2:a≠e)(h3:a≠it):
  Turn P w K (.Tuple elts k pos) (Ite K a) [e,it] e (λi h=>(∃old,IsEnum h e it (i:Int) old)/\h.IsListIter it a i) where
 mem:=by simp
 obj:=λi h st b hb=>by
  obtain⟨⟨old,eo⟩,o,io,c,d⟩:=st
  rcases List.mem_cons.mp hb with z |z
  ·subst z
   exact⟨_,eo,λv z=>by cases z⟩
  ·have z:=List.mem_singleton.mp z
   subst z
   exact⟨o,io,λv z=>by rw[d] at z;cases z⟩
 keep:=λi h h' st k=>⟨let ⟨old,eo⟩:=st.1;⟨old,k e (by simp) _ eo⟩,st.2.at λo q=>k it (by simp) o q⟩
 item:=by
  intro X hP hw hK hc i pins s σ H E I hf st hg
  subst hP hw hK
  obtain⟨xs,x,hq,hx⟩:=hg
  obtain⟨its,rv,p,hz⟩:=I.list hq
  obtain⟨u,hu,ru⟩:=rv.get hx
  obtain⟨⟨old,eo⟩,io⟩:=id st
  have hu':its.toArray[i]?=some u:=by simpa using hu
  have W:=WalksT.enumerate (prog:=X.prog) (w:=X.w) (A:=X.A) (I.ok.hd hc) e it a h1 h2 h3 its.toArray
  refine wpAny_pyNext_enum_item eo io p.isList hu' h1 λh' eo' io' tup sz kk=>?_
  have hT:∀b o,s.heap.get? b=some o->s.heap.objs.size≠b:=λb o q z=>absurd (Heap.lt_size q) (by rw[←z];exact Nat.lt_irrefl _)
  have hTe:=hT e _ eo
  have hTi:s.heap.objs.size≠it:=by obtain⟨o,q,_⟩:=io;exact hT it o q
  have ha':h'.IsList a its.toArray:=p.isList.at λo q=>kk a o h2 h3 q
  refine⟨_,rfl,W.go elts k pos i s.heap.objs.size _ _ _ ⟨⟨_,eo'⟩,io',ha',hTe,hTi⟩ λh'' st' kk'=>?_⟩
  obtain⟨st2,io2,_⟩:=st'
  have tup2:=kk' _ _ (by simp[hTe,hTi]) tup
  have k2:∀b o,b∉ [e,it]->s.heap.get? b=some o->h''.get? b=some o:=λb o q1 q=>kk' b o q1 (kk b o (λz=>q1 (by simp[z])) (λz=>q1 (by simp[z])) q)
  refine⟨.ref s.heap.objs.size,upd H s.heap.objs.size (.tup [.int (i:Int),x]),I.turnLay (h':=h'') (t':=s.toks+1) k2 hf (Nat.le_refl _) ⟨by show 2<=sizeLine;decide,[.int (i:Int) s.toks,u], .cons ⟨_,rfl⟩ (.cons ru .nil),⟨_,tup2,⟨rfl,rfl⟩,_,rfl⟩⟩,rfl,
   ⟨_,x,rfl,I.hok.fresh (Nat.le_refl _),rfl,λys hy=>by rw[I.list_inj hy hq];exact hx⟩,⟨by simpa using st2,io2⟩,λb hb=>?_⟩
  rcases List.mem_cons.mp hb with z |z
  ·rw[z,Xp hTe.symm];exact(hf e (by simp)).1
  ·rw[List.mem_singleton.mp z,Xp hTi.symm];exact(hf it (by simp)).1
 done:=by
  intro X hP hw hK hc i pins s σ H E I hf st hg
  subst hP hw hK
  obtain⟨xs,hq,hx⟩:=hg
  obtain⟨its,rv,p,hz⟩:=I.list hq
  obtain⟨⟨old,eo⟩,io⟩:=id st
  obtain⟨f0,f1,f2,f3,f4,f5⟩:=hf it (by simp)
  have hl:=rv.length
  exact wpAny_pyNext_enum_end (I.ok.hd hc) eo io p.isList (by simp;omega) λh' eb=>⟨rfl,I.turned (t':=s.toks) (λb o hb q=>eb b o hb q) f0 f1 f3 f4 f5⟩
 self:=by
  intro A i s Q E st h
  obtain⟨⟨old,eo⟩,io⟩:=st
  exact wpAny_pyIter_enum eo h
section
variable {X:Cx}{elts:List Expr}{k:Nat}{pos0:Pos}
noncomputable def La (K:PySem.W.Frag)(tl:TE):TI:=λσ H R=>tl σ H λx H1=>∃ a,x= .ref a/\(∃xs,SqL K H1 a xs)/\R (Ite K a) H1
theorem Ku {l:Expr}{tl:TE}{p pos:Pos}(hg:Gl X "enumerate")(hm:X.mg "enumerate" =none)(hl:PE X l tl)(hs:starEach [l] X.env=[(false,eval l X.env)]:=by rfl):
  PI X (.Tuple elts k pos0) (.Call (.Name "enumerate" p) [l] [] pos) (La X.K tl):=by
 intro pins s σ H R I h
 refine wpAny_Call_Name_kw (Vq I hg hm boot_enumerate ?_)
 refine PyProof.Rows.callWith_type1 ?_ hs rfl
 rw[hs]
 show wpAny _ _ (spliced ((false,eval l X.env)::backTo pos [])) _ _ s
 refine Calls.spliced_cons (thn (hl pins s σ H _ I h) λv s1 ⟨x,H1,I1,r1,a,ex,⟨xs,hq⟩,q⟩=>?_)
 subst ex
 cases r1
 obtain⟨its,rv,pl,hz⟩:=I1.list hq
 refine Calls.spliced_nil ?_
 have hlt:a<s1.heap.objs.size:=by obtain⟨o,n,ho,_⟩:=pl;exact Heap.lt_size ho
 refine call_enumerate_list pl.isList λh' en io sz kk=>?_
 refine wpAny_pyIter_enum en ?_
 refine⟨_,[s1.heap.objs.size+1,s1.heap.objs.size],_,_,H1,rfl,I1.kept (t':=s1.toks) kk,Ck a _ _ (Nat.ne_of_gt (Nat.lt_succ_self _)) (Nat.ne_of_lt (Nat.lt_succ_of_lt hlt)) (Nat.ne_of_lt hlt),⟨⟨_,en⟩,io⟩,λb hb=>?_,q⟩
 have hb':s1.heap.objs.size<=b:=by
  rcases List.mem_cons.mp hb with z |z
  ·rw[z];exact Nat.le_succ _
  ·rw[List.mem_singleton.mp z];exact Nat.le_refl _
 exact I1.fpOk hb' (I1.hok.fresh hb')
end
section
variable {X:Cx}
end
section
variable {α:Type}[DecidableEq α]{r:Enc α}{d:Nat}
end
section
variable {X:Cx}{o e f:Expr}{td ty tx:TE}{apos cpos:Pos}
end
section
variable {X:Cx}{elt tg iter:Expr}{ifs:List Expr}{scope sc:Scope}{pos:Pos}{n:Nat}{tns:List Str}{caps:List (Nat×Str)}{wi:TI}{g:TG}{tt:TT}{te:TE}
end
variable {X:Cx}
theorem JY {l:List Expr}{p:Pos}{es:List Expr}{env:Env}:starEach (.List l p::es) env=(false,eval (.List l p) env)::starEach es env:=rfl
variable {X:Cx}{o e:Expr}{es:List Expr}{to:TE}{t:TA}{name:Str}{apos cpos:Pos}{T id:String}{r:V->List V->Hp->VK->Prop}
theorem Lf (K:PySem.W.Frag)(hK:X.K=K)(pa:PlainAttrs T)(slot:Slot T name id)(hty:typeOf (.builtin id)=pure (.type "method_descriptor"))(hm:MtR X id r)(ho:PE X o to)(ha:PA X (e::es) t)
  (hbase:attributeBase o name X.env (eval o X.env)=eval o X.env:=by rfl)
  (hfew:((backTo cpos (starEach (e::es) X.env)).all (λx=>!x.1)&&(backToKw cpos (keywordEach [] X.env)).all (λx=>x.1.isSome)
   &&decide ((e::es).length+([]:List Keyword).length+(if([]:List Keyword).isEmpty then 0 else 1)<30))=true:=by rfl)
  (hline:(apos.endLine==cpos.line)=true:=by rfl)(hs:starEach (e::es) X.env=(false,eval e X.env)::starEach es X.env:=by rfl)(hplain:(backTo cpos (starEach es X.env)).any (·.1)=false:=by rfl):
  PE X (.Call (.Attribute o name apos) (e::es) [] cpos) (tBM K T r to t):=by
 subst hK
 exact YX pa slot hty hm ho ha hbase hfew hline hs hplain
end L2
namespace PySem
open PySem.Spec
namespace SeqAt
open MeetsSeq
end SeqAt
end PySem
namespace L2
open PySem PySem.Spec PyProof.Rows
section
variable {X:Cx}
end
section
variable {X:Cx}
end
section
variable {X:Cx}{α:Type}[DecidableEq α]{r:Enc α}{d:Nat}
end
section
variable {X:Cx}
end
section
variable {X:Cx}
variable {T:String}{name:Str}{id:String}{r:V->List V->Hp->VK->Prop}{o e:Expr}{es:List Expr}{to:TE}{t:TA}{apos cpos:Pos}
theorem VC {K:PySem.W.Frag}(hK:X.K=K)(pa:PlainAttrs T)(slot:Slot T name id)(hty:typeOf (.builtin id)=pure (.type "method_descriptor"))(hm:MtR X id r)(ho:PE X o to)(ha:PA X (e::es) t)
  (hbase:attributeBase o name X.env (eval o X.env)=eval o X.env:=by rfl)
  (hfew:((backTo cpos (starEach (e::es) X.env)).all (λx=>!x.1)&&(backToKw cpos (keywordEach [] X.env)).all (λx=>x.1.isSome)
   &&decide ((e::es).length+([]:List Keyword).length+(if([]:List Keyword).isEmpty then 0 else 1)<30))=true:=by rfl)
  (hline:(apos.endLine==cpos.line)=true:=by rfl)(hs:starEach (e::es) X.env=(false,eval e X.env)::starEach es X.env:=by rfl)(hplain:(backTo cpos (starEach es X.env)).any (·.1)=false:=by rfl):
  PE X (.Call (.Attribute o name apos) (e::es) [] cpos) (tBM K T r to t):=Lf K hK pa slot hty hm ho ha hbase hfew hline hs hplain
end
section
variable {X:Cx}{elt tg iter:Expr}{ifs:List Expr}{scope:Scope}{pos:Pos}{wi:TI}{g:TG}{tt:TT}{te:TE}
theorem ZL {sc:Scope}{N0:List Str}{tns:List Str}{caps:List (Nat×Str)}(hc:X.calm=true)(hi:PI X tg iter wi)(hG:Ur tns.length g)
  (hb:∀cl C s H ex E,PG (X.comp (tns++caps.map (·.2)) scope cl C s H ex E) tg g/\PTs (X.comp (tns++caps.map (·.2)) scope cl C s H ex E) ifs tt/\PE (X.comp (tns++caps.map (·.2)) scope cl C s H ex E) elt te)
  (hsc:X.env.scope=sc:=by rfl)(hN0:X.N=N0:=by rfl)(ok:Kl sc scope N0 tns caps=true:=by decide+kernel)
  (hs:∀x,foldedSetIterable iter X.env x=pure x:=by intro _;rfl):
  PE X (.ListComp elt [⟨tg,iter,ifs,0⟩] scope pos) (CK tns.length caps wi g tt te):=Hf sc N0 tns caps hc hi hG hb hsc hN0 ok hs
end
section
variable {X:Cx}{tg l:Expr}{tl:TE}{p pos:Pos}{K:PySem.W.Frag}
theorem XM (h:X.K=K)(hl:PE X l tl):PI X tg l (BS K tl):=by subst h;exact He hl
end
section
variable {X:Cx}
end
inductive Pay where
 |non |int (i:Int) |tag (t:Str) (xs:List Int)
 deriving DecidableEq
structure Exc where
 cls:Str
 pay:Pay
inductive Rs (α:Type) where
 |bad |err (x:Exc) |ok (a:α)
noncomputable def Rs.bind {α β:Type}:Rs α->(α->Rs β)->Rs β
 | .bad,_=>.bad
 | .err x,_=>.err x
 | .ok a,f=>f a
theorem Rs.ok_bind {α β:Type}(a:α)(f:α->Rs β):(Rs.ok a).bind f=f a:=rfl
noncomputable def chk {α:Type}(c:Prop)[Decidable c](m:Rs α):Rs α:=if c then m else .bad
theorem Xj {α:Type}{c:Prop}[Decidable c]{m:Rs α}(h:c):chk c m=m:=if_pos h
noncomputable abbrev Xn:=Addr×HO
noncomputable def Ih:HO->Bool
 | .lst _=>true
 | .dK _=>true
 | .dT _=>true
 |_=>false
noncomputable def fl (OO:List (List Xn)):List Addr:=OO.flatten.map (·.1)
open Classical in
noncomputable def hid (H:Hp)(OO:List (List Xn)):Hp:=λb=>if b∈fl OO then none else H b
structure W (OO:List (List Xn))(H:Hp):Prop where
 tr:∀c∈OO.flatten,H c.1=some c.2
 nd:(fl OO).Nodup
 mu:∀c∈OO.flatten,Ih c.2=true
theorem X6 {H:Hp}{OO}{b:Addr}{o:HO}(h:hid H OO b=some o):H b=some o/\b∉fl OO:=by
 unfold hid at h
 split at h
 ·cases h
 ·exact⟨h,by assumption⟩
theorem ZA {H:Hp}{OO}{b:Addr}{o:HO}(h:H b=some o)(n:b∉fl OO):hid H OO b=some o:=by
 unfold hid;rw[if_neg n];exact h
theorem Xu {H:Hp}{OO}:Xo (hid H OO) H:=λb o h=>(X6 h).1
theorem Xk {H H':Hp}{OO}(s:Xo H H'):Xo (hid H OO) (hid H' OO):=λb o h=>ZA (s _ _ (X6 h).1) (X6 h).2
theorem Uv {H H':Hp}{OO OO'}(s:Xo H H')(h:∀b,b∈fl OO'->b∈fl OO):Xo (hid H OO) (hid H' OO'):=λb o q=>ZA (s _ _ (X6 q).1) λz=>(X6 q).2 (h b z)
theorem X9 {C:List Xn}{OO}:fl (C::OO)=C.map (·.1)++fl OO:=by simp[fl]
theorem F0 {OO}:fl ([]::OO)=fl OO:=by simp[fl]
theorem Y1 {H:Hp}{OO}:hid H ([]::OO)=hid H OO:=by unfold hid;rw[F0]
theorem W.keep {OO}{H H':Hp}(w:W OO H)(s:Xo H H'):W OO H':=⟨λc hc=>s _ _ (w.tr c hc),w.nd,w.mu⟩
theorem W.of {OO OO':List (List Xn)}{H:Hp}(w:W OO H)(h:OO'.flatten.Perm OO.flatten):W OO' H:=
 ⟨λc hc=>w.tr c (h.mem_iff.mp hc),(h.map _).nodup_iff.mpr w.nd,λc hc=>w.mu c (h.mem_iff.mp hc)⟩
theorem W.sub {OO OO':List (List Xn)}{H:Hp}(w:W OO H)(h:OO'.flatten.Sublist OO.flatten):W OO' H:=
 ⟨λc hc=>w.tr c (h.mem hc),(h.map _).nodup w.nd,λc hc=>w.mu c (h.mem hc)⟩
theorem W.tail {C OO}{H:Hp}(w:W (C::OO) H):W OO H:=w.sub (by simp)
theorem W.nil {OO}{H:Hp}(w:W OO H):W ([]::OO) H:=w.of (by simp)
theorem W.cell {C OO}{H:Hp}(w:W (C::OO) H):∀c∈C,H c.1=some c.2:=λc hc=>w.tr c (by simp[hc])
theorem VJ {OO:List (List Xn)}{c:Xn}(h:c∈OO.flatten):c.1∈fl OO:=List.mem_map.mpr ⟨c,h,rfl⟩
theorem Fy {OO:List (List Xn)}{b:Addr}(h:b∈fl OO):∃o,(b,o)∈OO.flatten:=by
 obtain⟨⟨a,o⟩,hc,rfl⟩:=List.mem_map.mp h
 exact⟨o,hc⟩
theorem W.fresh {OO}{H:Hp}(w:W OO H){p:Addr}(h:H p=none):p∉fl OO:=λz=>by
 obtain⟨o,ho⟩:=Fy z
 have:=w.tr _ ho
 rw[h] at this;cases this
theorem W.new {OO}{H:Hp}(w:W OO H){p:Addr}(h:H p=none){o:HO}(m:Ih o=true):W ([(p,o)]::OO) (upd H p o):=by
 have hf:=w.fresh h
 refine⟨λc hc=>?_,?_,λc hc=>?_⟩
 ·simp only[List.flatten_cons,List.cons_append,List.nil_append,List.mem_cons] at hc
  rcases hc with rfl |hc
  ·exact X2
  ·rw[Xp (λe=>hf (by rw[←e];exact VJ hc))];exact w.tr c hc
 ·rw[X9];simpa using ⟨hf,w.nd⟩
 ·simp only[List.flatten_cons,List.cons_append,List.nil_append,List.mem_cons] at hc
  rcases hc with rfl |hc
  ·exact m
  ·exact w.mu c hc
theorem JH {OO}{H:Hp}{p:Addr}(h:H p=none){o:HO}:Xo (hid H OO) (hid (upd H p o) ([(p,o)]::OO)):=λb u q=>by
 obtain⟨q1,q2⟩:=X6 q
 have hb:b≠p:=Xr q1 h
 refine ZA (by rw[Xp hb];exact q1) ?_
 rw[X9];simpa using ⟨hb,q2⟩
theorem Jg {OO}{H:Hp}(w:W OO H){p:Addr}(h:H p=none){o:HO}:hid (upd H p o) OO p=some o:=ZA X2 (w.fresh h)
class MonoE {α:Type}(r:Enc α):Prop where
 mono:∀{K:PySem.W.Frag}{H H':Hp}{v:V}{a:α},Xo H H'->r K H v a->r K H' v a
noncomputable def Mw:HO->Bool
 | .tup _=>true
 | .frz _ _=>true
 |_=>false
noncomputable def Q8 (H H':Hp):Prop:=∀ b o,H b=some o->Mw o=true->H' b=some o
theorem Xo.i {H H':Hp}(s:Xo H H'):Q8 H H':=λb o h _=>s b o h
theorem W.i {OO}{H:Hp}(w:W OO H):Q8 H (hid H OO):=λb o h i=>ZA h λz=>by
 obtain⟨u,hu⟩:=Fy z
 have h1:=w.tr _ hu
 have h2:=w.mu _ hu
 rw[h] at h1
 have e:o=u:=Option.some.inj h1
 subst e
 revert i h2;cases o<;> simp[Mw,Ih]
theorem Q8.trans {H H1 H2:Hp}(a:Q8 H H1)(b:Q8 H1 H2):Q8 H H2:=λc o h i=>b c o (a c o h i) i
class FlatE {α:Type}(r:Enc α):Prop where
 flat:∀{K:PySem.W.Frag}{H H':Hp}{v:V}{a:α},Q8 H H'->r K H v a->r K H' v a
instance {α:Type}{r:Enc α}[f:FlatE r]:MonoE r:=⟨λs h=>f.flat s.i h⟩
theorem Q8.seqT {K:PySem.W.Frag}{H H':Hp}{a:Addr}{xs:List V}(e:Q8 H H')(h:SqT K H a xs):SqT K H' a xs:=by
 rcases h with(h | ⟨o,h⟩) |h
 ·exact .inl (.inl (e _ _ h rfl))
 ·exact .inl (.inr ⟨o,e _ _ h rfl⟩)
 ·exact .inr h
noncomputable def Xl:Enc Bool:=λ_ _ v b=>v= .bl b
noncomputable def Xt:Enc Str:=λ_ _ v x=>v= .str x
noncomputable def Q5 {α:Type}(r:Enc α):Enc (Option α):=λK H v a=>match a with
 |none=>v= .non
 |some a=>v≠ .non/\r K H v a
noncomputable def rV {α:Type}(r:Enc α):Enc (List α):=λK H v as=>∃ a xs,v= .ref a/\H a=some (.lst xs)/\Paired (r K H) xs as
noncomputable def rPL {α:Type}(r:Enc α):Enc (List α):=λK H v as=>∃ a xs,v= .ref a/\H a=some (.tup xs)/\Paired (r K H) xs as
noncomputable def rP2 {α β:Type}(r:Enc α)(q:Enc β):Enc (α×β):=λK H v p=>∃ a x y,v= .ref a/\H a=some (.tup [x,y])/\r K H x p.1/\q K H y p.2
noncomputable def rP3 {α β γ:Type}(r:Enc α)(q:Enc β)(t:Enc γ):Enc (α×β×γ):=λK H v p=>∃ a x y z,v= .ref a/\H a=some (.tup [x,y,z])/\r K H x p.1/\q K H y p.2.1/\t K H z p.2.2
instance {α:Type}{r:Enc α}[m:MonoE r]:MonoE (rV r):=⟨λs r9=>by obtain⟨a,xs,e,q,p⟩:=r9;exact⟨a,xs,e,s _ _ q,Paired.imp2 (λ_ _ z=>m.mono s z) p⟩⟩
instance {α:Type}{r:Enc α}[m:MonoE r]:MonoE (rPL r):=⟨λs r9=>by obtain⟨a,xs,e,q,p⟩:=r9;exact⟨a,xs,e,s _ _ q,Paired.imp2 (λ_ _ z=>m.mono s z) p⟩⟩
instance {α:Type}{r:Enc α}[m:FlatE r]:FlatE (rPL r):=⟨λs r9=>by obtain⟨a,xs,e,q,p⟩:=r9;exact⟨a,xs,e,s _ _ q rfl,Paired.imp2 (λ_ _ z=>m.flat s z) p⟩⟩
instance {α β:Type}{r:Enc α}{q:Enc β}[m:MonoE r][n:MonoE q]:MonoE (rP2 r q):=⟨λs r9=>by obtain⟨a,x,y,e,h,p1,p2⟩:=r9;exact⟨a,x,y,e,s _ _ h,m.mono s p1,n.mono s p2⟩⟩
instance {α β:Type}{r:Enc α}{q:Enc β}[m:FlatE r][n:FlatE q]:FlatE (rP2 r q):=⟨λs r9=>by obtain⟨a,x,y,e,h,p1,p2⟩:=r9;exact⟨a,x,y,e,s _ _ h rfl,m.flat s p1,n.flat s p2⟩⟩
instance {α β γ:Type}{r:Enc α}{q:Enc β}{t:Enc γ}[m:MonoE r][n:MonoE q][k:MonoE t]:MonoE (rP3 r q t):=⟨λs r9=>by obtain⟨a,x,y,z,e,h,p1,p2,p3⟩:=r9;exact⟨a,x,y,z,e,s _ _ h,m.mono s p1,n.mono s p2,k.mono s p3⟩⟩
instance {α β γ:Type}{r:Enc α}{q:Enc β}{t:Enc γ}[m:FlatE r][n:FlatE q][k:FlatE t]:FlatE (rP3 r q t):=⟨λs r9=>by obtain⟨a,x,y,z,e,h,p1,p2,p3⟩:=r9;exact⟨a,x,y,z,e,s _ _ h rfl,m.flat s p1,n.flat s p2,k.flat s p3⟩⟩
instance:FlatE Xb:=⟨λ_ h=>h⟩
instance:FlatE Xl:=⟨λ_ h=>h⟩
instance:FlatE Xt:=⟨λ_ h=>h⟩
instance {α:Type}{r:Enc α}[m:MonoE r]:MonoE (rL r):=⟨λs r9=>by obtain⟨a,xs,e,q,p⟩:=r9;exact⟨a,xs,e,s.seq q,Paired.imp2 (λ_ _ z=>m.mono s z) p⟩⟩
instance {α:Type}{r:Enc α}[m:MonoE r]:MonoE (Q5 r):=⟨fun {K H H' v a} s h=>by cases a with
 |none=>exact h
 |some a=>exact⟨h.1,m.mono s h.2⟩⟩
instance {α:Type}{r:Enc α}[m:FlatE r]:FlatE (Q5 r):=⟨fun {K H H' v a} s h=>by cases a with
 |none=>exact h
 |some a=>exact⟨h.1,m.flat s h.2⟩⟩
noncomputable abbrev OE (α:Type):=PySem.W.Frag->Hp->V->α->List Xn->Prop
inductive P3 {α β γ:Type}(F:α->β->γ->Prop):List α->List β->List γ->Prop where
 |nil:P3 F [] [] []
 |cons {a b c l m n}:F a b c->P3 F l m n->P3 F (a::l) (b::m) (c::n)
noncomputable def oF {α:Type}(r:Enc α):OE α:=λK h v a C=>C=[]/\r K h v a
noncomputable def oL {α:Type}(o:OE α):OE (List α):=λK h v as C=>∃ p xs Cs,v= .ref p/\P3 (o K h) xs as Cs/\C=(p, .lst xs)::Cs.flatten
noncomputable def oT2 {α β:Type}(o:OE α)(q:OE β):OE (α×β):=λK h v a C=>∃ p x y C1 C2,v= .ref p/\h p=some (.tup [x,y])/\o K h x a.1 C1/\q K h y a.2 C2/\C=C1++C2
noncomputable def Mj {α:Type}(o:OE α):OE (Option α):=λK h v a C=>match a with
 |none=>v= .non/\C=[]
 |some a=>v≠ .non/\o K h v a C
section
variable {α β γ δ:Type}
theorem P3.imp {F G:α->β->γ->Prop}(h:∀a b c,F a b c->G a b c):∀{l m n},P3 F l m n->P3 G l m n:=λp=>by
 induction p with
 |nil=>exact .nil
 |cons r _ ih=>exact .cons (h _ _ _ r) ih
theorem P3.app {F:α->β->γ->Prop}:∀{l m n l' m' n'},P3 F l m n->P3 F l' m' n'->P3 F (l++l') (m++m') (n++n'):=λp h=>by
 induction p with
 |nil=>exact h
 |cons r _ ih=>exact .cons r ih
theorem P3.snoc {F:α->β->γ->Prop}{l m n a b c}(h:P3 F l m n)(r:F a b c):P3 F (l++[a]) (m++[b]) (n++[c]):=h.app (.cons r .nil)
theorem P3.len {F:α->β->γ->Prop}:∀{l m n},P3 F l m n->l.length=m.length/\n.length=m.length:=λp=>by
 induction p with
 |nil=>exact⟨rfl,rfl⟩
 |cons _ _ ih=>exact⟨congrArg Nat.succ ih.1,congrArg Nat.succ ih.2⟩
theorem P3.pair {F:α->β->γ->Prop}{G:α->β->Prop}:∀{l m n},P3 F l m n->(∀a b c,c∈n->F a b c->G a b)->Paired G l m:=λp h=>by
 induction p with
 |nil=>exact .nil
 |cons r _ ih=>exact .cons (h _ _ _ List.mem_cons_self r) (ih λa b c hc=>h a b c (List.mem_cons_of_mem _ hc))
theorem P3.get {F:α->β->γ->Prop}:∀{l m n}{i:Nat}{b:β},P3 F l m n->m[i]?=some b->∃a c,l[i]?=some a/\n[i]?=some c/\F a b c
 |_,_,_,_,_, .nil,e=>by simp at e
 |_,_,_,0,_, .cons r _,e=>by simp at e;subst e;exact⟨_,_,rfl,rfl,r⟩
 |_,_,_,i+1,b, .cons _ t,e=>by
  obtain⟨a,c,h1,h2,h3⟩:=P3.get (i:=i) (b:=b) t (by simpa using e)
  exact⟨a,c,by simpa using h1,by simpa using h2,h3⟩
theorem P3.set {F:α->β->γ->Prop}{a:α}{b:β}{c:γ}(r:F a b c):∀{l m n} (i:Nat),P3 F l m n->P3 F (l.set i a) (m.set i b) (n.set i c)
 |_,_,_,_, .nil=>.nil
 |_,_,_,0, .cons _ t=>.cons r t
 |_,_,_,i+1, .cons q t=>.cons q (P3.set r i t)
theorem P3.flat {F:α->β->Prop}:∀{l:List α}{m:List β}{n:List (List Xn)},P3 (λa b c=>c=[]/\F a b) l m n->Paired F l m/\n.flatten=[]:=λp=>by
 induction p with
 |nil=>exact⟨.nil,rfl⟩
 |cons r _ ih=>exact⟨.cons r.2 ih.1,by rw[List.flatten_cons,r.1,ih.2];rfl⟩
theorem P3.of {F:α->β->Prop}:∀{l:List α}{m:List β},Paired F l m->P3 (λa b (c:List Xn)=>c=[]/\F a b) l m (List.replicate m.length [])
 |_,_, .nil=>.nil
 |_,_, .cons r t=>.cons ⟨rfl,r⟩ (P3.of t)
theorem Yd:∀n:Nat,(List.replicate n ([]:List Xn)).flatten=[]
 |0=>rfl
 |n+1=>by simp[List.replicate_succ,Yd n]
end
class MonoO {α:Type}(o:OE α):Prop where
 mono:∀{K:PySem.W.Frag}{H H':Hp}{v:V}{a:α}{C:List Xn},Xo H H'->o K H v a C->o K H' v a C
class FlatO {α:Type}(o:OE α):Prop where
 flat:∀{K:PySem.W.Frag}{H H':Hp}{v:V}{a:α}{C:List Xn},Q8 H H'->o K H v a C->o K H' v a C
class FrzC {α:Type}(o:OE α)(r:outParam (Enc α)):Prop where
 frz:∀{K:PySem.W.Frag}{H H':Hp}{v:V}{a:α}{C:List Xn},o K H v a C->Xo H H'->(∀c∈C,H' c.1=some c.2)->r K H' v a
instance {α:Type}{r:Enc α}[m:MonoE r]:MonoO (oF r):=⟨λs h=>⟨h.1,m.mono s h.2⟩⟩
instance {α:Type}{r:Enc α}[m:FlatE r]:FlatO (oF r):=⟨λs h=>⟨h.1,m.flat s h.2⟩⟩
instance {α:Type}{r:Enc α}[m:MonoE r]:FrzC (oF r) r:=⟨λh s _=>m.mono s h.2⟩
instance {α:Type}{o:OE α}[m:MonoO o]:MonoO (oL o):=⟨λs r9=>by obtain⟨p,xs,Cs,e,q,c⟩:=r9;exact⟨p,xs,Cs,e,q.imp λ_ _ _ z=>m.mono s z,c⟩⟩
instance {α:Type}{o:OE α}[m:FlatO o]:FlatO (oL o):=⟨λs r9=>by obtain⟨p,xs,Cs,e,q,c⟩:=r9;exact⟨p,xs,Cs,e,q.imp λ_ _ _ z=>m.flat s z,c⟩⟩
instance {α:Type}{o:OE α}{r:Enc α}[m:FrzC o r]:FrzC (oL o) (rV r):=⟨λ⟨p,xs,Cs,e,q,c⟩ s hc=>by
 subst c
 exact⟨p,xs,e,hc _ List.mem_cons_self,q.pair λa b c hm z=>m.frz z s λx hx=>hc x (List.mem_cons_of_mem _ (List.mem_flatten.mpr ⟨c,hm,hx⟩))⟩⟩
instance {α β:Type}{o:OE α}{q:OE β}[m:MonoO o][n:MonoO q]:MonoO (oT2 o q):=⟨λs r9=>by obtain⟨p,x,y,C1,C2,e,h,h1,h2,c⟩:=r9;exact⟨p,x,y,C1,C2,e,s _ _ h,m.mono s h1,n.mono s h2,c⟩⟩
instance {α β:Type}{o:OE α}{q:OE β}[m:FlatO o][n:FlatO q]:FlatO (oT2 o q):=⟨λs r9=>by obtain⟨p,x,y,C1,C2,e,h,h1,h2,c⟩:=r9;exact⟨p,x,y,C1,C2,e,s _ _ h rfl,m.flat s h1,n.flat s h2,c⟩⟩
instance {α β:Type}{o:OE α}{q:OE β}{r:Enc α}{t:Enc β}[m:FrzC o r][n:FrzC q t]:FrzC (oT2 o q) (rP2 r t):=⟨λ⟨p,x,y,C1,C2,e,h,h1,h2,c⟩ s hc=>by
 subst c
 exact⟨p,x,y,e,s _ _ h,m.frz h1 s λc hm=>hc c (by simp[hm]),n.frz h2 s λc hm=>hc c (by simp[hm])⟩⟩
instance {α:Type}{o:OE α}[m:MonoO o]:MonoO (Mj o):=⟨fun {K H H' v a C} s h=>by cases a with
 |none=>exact h
 |some a=>exact⟨h.1,m.mono s h.2⟩⟩
instance {α:Type}{o:OE α}[m:FlatO o]:FlatO (Mj o):=⟨fun {K H H' v a C} s h=>by cases a with
 |none=>exact h
 |some a=>exact⟨h.1,m.flat s h.2⟩⟩
instance {α:Type}{o:OE α}{r:Enc α}[m:FrzC o r]:FrzC (Mj o) (Q5 r):=⟨fun {K H H' v a C} h s hc=>by cases a with
 |none=>exact h.1
 |some a=>exact⟨h.1,m.frz h.2 s hc⟩⟩
structure SC where
 p:Hp->Prop
 mono:∀h h',Xo h h'->p h->p h'
noncomputable def SC.nil:SC:=⟨λ_=>True,λ_ _ _ _=>True.intro⟩
noncomputable def SC.and (S T:SC):SC:=⟨λh=>S.p h/\T.p h,λ_ _ s q=>⟨S.mono _ _ s q.1,T.mono _ _ s q.2⟩⟩
noncomputable def SC.one {α:Type}(K:PySem.W.Frag)(r:Enc α)[m:MonoE r](v:V)(a:α):SC:=⟨λh=>r K h v a,λ_ _ s q=>m.mono s q⟩
noncomputable def SC.oneO {α:Type}(K:PySem.W.Frag)(o:OE α)[m:MonoO o](v:V)(a:α)(C:List Xn):SC:=⟨λh=>o K h v a C,λ_ _ s q=>m.mono s q⟩
noncomputable abbrev SC.add {α:Type}(S:SC)(K:PySem.W.Frag)(r:Enc α)[m:MonoE r](v:V)(a:α):SC:=S.and (SC.one K r v a)
noncomputable abbrev SC.addO {α:Type}(S:SC)(K:PySem.W.Frag)(o:OE α)[m:MonoO o](v:V)(a:α)(C:List Xn):SC:=S.and (SC.oneO K o v a C)
theorem SC.l {S T:SC}{h:Hp}(q:(S.and T).p h):S.p h:=q.1
theorem SC.r {S T:SC}{h:Hp}(q:(S.and T).p h):T.p h:=q.2
theorem SC.i {S T:SC}{h:Hp}(q:S.p h)(p:T.p h):(S.and T).p h:=⟨q,p⟩
theorem SC.t {h:Hp}:SC.nil.p h:=True.intro
theorem SC.p.l {S T:SC}{h:Hp}(q:(S.and T).p h):S.p h:=q.1
theorem SC.p.r {S T:SC}{h:Hp}(q:(S.and T).p h):T.p h:=q.2
noncomputable def PZ {β:Type}(Er:Exc->Hp->Prop)(F:β->Hp->Prop)(H:Hp)(m:Rs β):Prop:=
 match m with
 | .bad=>False
 | .err x=>∀ H',Xo H H'->Er x H'
 | .ok b=>F b H
section
variable (K:PySem.W.Frag)(Er:Exc->Hp->Prop)(S:SC)(OO OO':List (List Xn))(σ:St)
noncomputable def FB {α:Type}(r:Enc α)(Q:VK)(a:α)(H:Hp):Prop:=∀ v H',Xo H H'->r K H' v a->Q v H'
noncomputable def FO {α:Type}(o:OE α)(Q:VK)(a:α)(H:Hp):Prop:=∀ v C H',Xo H H'->W (C::OO') H'->Xo (hid H OO) (hid H' (C::OO'))->o K (hid H' (C::OO')) v a C->Q v H'
noncomputable def FT (Q:Bool->Hp->Prop)(b:Bool)(H:Hp):Prop:=∀ H',Xo H H'->Q b H'
noncomputable def EvB {α:Type}(te:TE)(r:Enc α)(m:Rs α):Prop:=∀ H Q,W OO H->S.p (hid H OO)->PZ Er (FB K r Q) H m->te σ H Q
noncomputable def Ev {α:Type}(te:TE)(o:OE α)(m:Rs α):Prop:=∀ H Q,W OO H->S.p (hid H OO)->PZ Er (FO K OO OO' o Q) H m->te σ H Q
noncomputable def EvT (tt:TT)(m:Rs Bool):Prop:=∀ H Q,W OO H->S.p (hid H OO)->PZ Er (FT Q) H m->tt σ H Q
end
section
variable {K:PySem.W.Frag}{Er:Exc->Hp->Prop}{S:SC}{OO OO' OO2:List (List Xn)}{σ:St}{α β γ:Type}
theorem FB.tr {r:Enc α}{Q:VK}:∀a H H',Xo H H'->FB K r Q a H->FB K r Q a H':=λa H H' s h v H2 s2 q=>h v H2 (s.trans s2) q
theorem FO.tr {o:OE α}{Q:VK}:∀a H H',Xo H H'->FO K OO OO' o Q a H->FO K OO OO' o Q a H':=λa H H' s h v C H2 s2 w m q=>h v C H2 (s.trans s2) w ((Xk s).trans m) q
theorem FT.tr {Q:Bool->Hp->Prop}:∀b H H',Xo H H'->FT Q b H->FT Q b H':=λa H H' s h H2 s2=>h H2 (s.trans s2)
theorem EvB.run {te:TE}{r:Enc α}{m:Rs α}(he:EvB K Er S OO σ te r m){H:Hp}{Q:VK}(w:W OO H)(s:S.p (hid H OO)){f:α->Rs β}{F:β->Hp->Prop}(hF:∀b H H',Xo H H'->F b H->F b H')(P:PZ Er F H (m.bind f))
  (hk:∀a v H',Xo H H'->W OO H'->S.p (hid H' OO)->r K H' v a->PZ Er F H' (f a)->Q v H'):te σ H Q:=by
 refine he H Q w s ?_
 cases m with
 |bad=>exact P
 |err x=>exact P
 |ok a=>
  intro v H' s' hr
  refine hk a v H' s' (w.keep s') (S.mono _ _ (Xk s') s) hr ?_
  have P':PZ Er F H (f a):=P
  revert P'
  cases f a with
  |bad=>exact λz=>z
  |err x=>exact λz H2 s2=>z H2 (s'.trans s2)
  |ok b=>exact λz=>hF b H H' s' z
theorem Ev.run {te:TE}{o:OE α}{m:Rs α}(he:Ev K Er S OO OO' σ te o m){H:Hp}{Q:VK}(w:W OO H)(s:S.p (hid H OO)){f:α->Rs β}{F:β->Hp->Prop}(hF:∀b H H',Xo H H'->F b H->F b H')(P:PZ Er F H (m.bind f))
  (hk:∀a v C H',Xo H H'->W (C::OO') H'->Xo (hid H OO) (hid H' (C::OO'))->S.p (hid H' (C::OO'))->o K (hid H' (C::OO')) v a C->PZ Er F H' (f a)->Q v H'):te σ H Q:=by
 refine he H Q w s ?_
 cases m with
 |bad=>exact P
 |err x=>exact P
 |ok a=>
  intro v C H' s' w' m' ho
  refine hk a v C H' s' w' m' (S.mono _ _ m' s) ho ?_
  have P':PZ Er F H (f a):=P
  revert P'
  cases f a with
  |bad=>exact λz=>z
  |err x=>exact λz H2 s2=>z H2 (s'.trans s2)
  |ok b=>exact λz=>hF b H H' s' z
theorem EvT.run {tt:TT}{m:Rs Bool}(he:EvT Er S OO σ tt m){H:Hp}{Q:Bool->Hp->Prop}(w:W OO H)(s:S.p (hid H OO)){f:Bool->Rs β}{F:β->Hp->Prop}(hF:∀b H H',Xo H H'->F b H->F b H')(P:PZ Er F H (m.bind f))
  (hk:∀b H',Xo H H'->W OO H'->S.p (hid H' OO)->PZ Er F H' (f b)->Q b H'):tt σ H Q:=by
 refine he H Q w s ?_
 cases m with
 |bad=>exact P
 |err x=>exact P
 |ok a=>
  intro H' s'
  refine hk a H' s' (w.keep s') (S.mono _ _ (Xk s') s) ?_
  have P':PZ Er F H (f a):=P
  revert P'
  cases f a with
  |bad=>exact λz=>z
  |err x=>exact λz H2 s2=>z H2 (s'.trans s2)
  |ok b=>exact λz=>hF b H H' s' z
theorem Ev.toB {te:TE}{o:OE α}{r:Enc α}[z:FrzC o r]{m:Rs α}(he:Ev K Er S OO OO σ te o m):EvB K Er S OO σ te r m:=λH Q w s P=>by
 refine he H Q w s ?_
 cases m with
 |bad=>exact P
 |err x=>exact P
 |ok a=>exact λv C H' s' w' m' ho=>P v H' s' (z.frz ho Xu w'.cell)
theorem Ev.frz {te:TE}{o:OE α}{r:Enc α}[z:FrzC o r]{m:Rs α}(he:Ev K Er S OO OO' σ te o m):Ev K Er S OO OO' σ te (oF r) m:=λH Q w s P=>by
 refine he H Q w s ?_
 cases m with
 |bad=>exact P
 |err x=>exact P
 |ok a=>
  intro v C H' s' w' m' ho
  have hs:Xo (hid H' (C::OO')) (hid H' ([]::OO')):=Uv (Xo.refl _) λb hb=>by rw[F0] at hb;rw[X9];simp[hb]
  refine P v [] H' s' w'.tail.nil (m'.trans hs) ⟨rfl,z.frz ho hs λc hc=>ZA (w'.cell c hc) ?_⟩
  rw[F0]
  have:=w'.nd
  rw[X9] at this
  intro hb
  exact(List.nodup_append.mp this).2.2 c.1 (List.mem_map.mpr ⟨c,hc,rfl⟩) c.1 hb rfl
theorem EvB.flat {te:TE}{r:Enc α}[z:FlatE r]{m:Rs α}(he:EvB K Er S OO σ te r m):Ev K Er S OO OO σ te (oF r) m:=λH Q w s P=>by
 refine he H Q w s ?_
 cases m with
 |bad=>exact P
 |err x=>exact P
 |ok a=>
  intro v H' s' hr
  have w':=w.keep s'
  exact P v [] H' s' w'.nil (by rw[Y1];exact Xk s') ⟨rfl,by rw[Y1];exact z.flat w'.i hr⟩
theorem Xd {r:Enc α}[z:MonoE r]{v:V}{a:α}(i:Nat)(hσ:σ[i]?=some (some v))(h:∀x,S.p x->r K x v a):EvB K Er S OO σ (Ux i) r (.ok a):=λH Q w s P=>
 ⟨v,hσ,P v H (Xo.refl _) (z.mono Xu (h _ s))⟩
theorem X7 {o:OE α}{r:Enc α}[z:FrzC o r]{v:V}{a:α}{C:List Xn}(i k:Nat)(hσ:σ[i]?=some (some v))(hk:OO[k]?=some C)(h:∀x,S.p x->o K x v a C):EvB K Er S OO σ (Ux i) r (.ok a):=λH Q w s P=>
 ⟨v,hσ,P v H (Xo.refl _) (z.frz (h _ s) Xu λc hc=>w.tr c (List.mem_flatten.mpr ⟨C,List.mem_of_getElem? hk,hc⟩))⟩
theorem XX:∀{OO:List (List Xn)}{k:Nat}{C:List Xn},OO[k]?=some C->(C::OO.set k []).flatten.Perm OO.flatten
 | [],_,_,h=>by simp at h
 |D::OO,0,C,h=>by simp at h;subst h;simp
 |D::OO,k+1,C,h=>by
  have:=XX (OO:=OO) (k:=k) (C:=C) (by simpa using h)
  simp only[List.set_cons_succ,List.flatten_cons] at this⊢
  refine List.Perm.trans ?_ (this.append_left D)
  rw[←List.append_assoc, ←List.append_assoc]
  exact List.perm_append_comm.append_right _
theorem JG {OO OO':List (List Xn)}(h:OO'.flatten.Perm OO.flatten)(b:Addr):b∈fl OO'↔b∈fl OO:=(h.map (·.1)).mem_iff
theorem Yv {H:Hp}{OO OO':List (List Xn)}(h:OO'.flatten.Perm OO.flatten):hid H OO'=hid H OO:=by
 funext b;unfold hid
 by_cases hb:b∈fl OO
 ·rw[if_pos hb,if_pos ((JG h b).mpr hb)]
 ·rw[if_neg hb,if_neg λz=>hb ((JG h b).mp z)]
theorem Y2 {o:OE α}{v:V}{a:α}{C:List Xn}(i k:Nat)(hσ:σ[i]?=some (some v))(hk:OO[k]?=some C)(h:∀x,S.p x->o K x v a C):Ev K Er S OO (OO.set k []) σ (Ux i) o (.ok a):=λH Q w s P=>by
 have hp:=XX hk
 exact⟨v,hσ,P v C H (Xo.refl _) (w.of hp) (by rw[Yv hp];exact Xo.refl _) (by rw[Yv hp];exact h _ s)⟩
theorem Xg (n:Int):EvB K Er S OO σ (tC (.int n)) Xb (.ok n):=λH Q w s P=>P _ H (Xo.refl _) rfl
theorem YM (b:Bool):EvB K Er S OO σ (tC (.bl b)) Xl (.ok b):=λH Q w s P=>P _ H (Xo.refl _) rfl
theorem XN (x:Str):EvB K Er S OO σ (tC (.str x)) Xt (.ok x):=λH Q w s P=>P _ H (Xo.refl _) rfl
theorem QG {ta tb:TE}{g:Int->Int->V}{r:Enc β}{f:Int->Int->β}{ma mb:Rs Int}(hg:∀K H i j,r K H (g i j) (f i j))(ha:EvB K Er S OO σ ta Xb ma)(hb:EvB K Er S OO σ tb Xb mb):
  EvB K Er S OO σ (tOp (rI0 g) ta tb) r (ma.bind λa=>mb.bind λb=>.ok (f a b)):=λH Q w s P=>
 ha.run w s FB.tr P λa x H1 s1 w1 q1 r1 P1=>hb.run w1 q1 FB.tr P1 λb y H2 s2 w2 q2 r2 P2=>⟨a,b,r1,r2,P2 _ H2 (Xo.refl _) (hg K H2 a b)⟩
theorem Ue {ta tb:TE}{Cc:Int->Int->Prop}{g:Int->Int->V}{r:Enc β}{f:Int->Int->Rs β}{ma mb:Rs Int}(hg:∀K H i j c,f i j= .ok c->Cc i j/\r K H (g i j) c)(he:∀i j x,f i j≠ .err x)
  (ha:EvB K Er S OO σ ta Xb ma)(hb:EvB K Er S OO σ tb Xb mb):
  EvB K Er S OO σ (tOp (rI Cc g) ta tb) r (ma.bind λa=>mb.bind λb=>f a b):=λH Q w s P=>
 ha.run w s FB.tr P λa x H1 s1 w1 q1 r1 P1=>hb.run w1 q1 FB.tr P1 λb y H2 s2 w2 q2 r2 P2=>by
  cases e:f a b with
  |bad=>rw[e] at P2;exact P2.elim
  |err x=>exact absurd e (he a b x)
  |ok c=>
   rw[e] at P2
   obtain⟨h1,h2⟩:=hg K H2 a b c e
   exact⟨a,b,r1,r2,h1,P2 _ H2 (Xo.refl _) h2⟩
noncomputable def JA (a b:Int):Rs Int:=chk ((-(2^64)<a/\a<2^64)∨(-(2^64)<b/\b<2^64)) (.ok (a*b))
noncomputable def V4 (a b:Int):Rs Int:=chk (0<b) (.ok (a % b))
noncomputable def Io (a b:Int):Rs Int:=chk (0<b/\b.natAbs.log2<9000) (.ok (a/b))
noncomputable def Es (a b:Int):Rs Int:=chk (0<=b/\b<=1000000/\a.natAbs<2^64) (.ok (a^b.toNat))
theorem Zj {c:Prop}[Decidable c]{m:Rs α}{a:α}(h:chk c m= .ok a):c/\m= .ok a:=by
 unfold chk at h;split at h
 ·exact⟨by assumption,h⟩
 ·cases h
theorem Z7 {c:Prop}[Decidable c]{a:α}{x:Exc}:chk c (Rs.ok a)≠ .err x:=by
 unfold chk;split<;> exact λz=>nomatch z
theorem Yr {ta tb:TE}{ma mb:Rs Int}(ha:EvB K Er S OO σ ta Xb ma)(hb:EvB K Er S OO σ tb Xb mb):EvB K Er S OO σ (tOp (rI LV λi j=>.int (i*j)) ta tb) Xb (ma.bind λa=>mb.bind λb=>JA a b):=
 Ue (λK H i j c h=>by obtain⟨h1,h2⟩:=Zj h;cases h2;exact⟨h1,rfl⟩) (λi j x=>Z7) ha hb
theorem YG {ta tb:TE}{ma mb:Rs Int}(ha:EvB K Er S OO σ ta Xb ma)(hb:EvB K Er S OO σ tb Xb mb):EvB K Er S OO σ (tOp (rI (λ_ j=>0<j) λi j=>.int (i % j)) ta tb) Xb (ma.bind λa=>mb.bind λb=>V4 a b):=
 Ue (λK H i j c h=>by obtain⟨h1,h2⟩:=Zj h;cases h2;exact⟨h1,rfl⟩) (λi j x=>Z7) ha hb
theorem F8 {ta tb:TE}{ma mb:Rs Int}(ha:EvB K Er S OO σ ta Xb ma)(hb:EvB K Er S OO σ tb Xb mb):EvB K Er S OO σ (tOp (rI (λ_ j=>0<j/\j.natAbs.log2<9000) λi j=>.int (i/j)) ta tb) Xb (ma.bind λa=>mb.bind λb=>Io a b):=
 Ue (λK H i j c h=>by obtain⟨h1,h2⟩:=Zj h;cases h2;exact⟨h1,rfl⟩) (λi j x=>Z7) ha hb
theorem QP {ta tb:TE}{ma mb:Rs Int}(ha:EvB K Er S OO σ ta Xb ma)(hb:EvB K Er S OO σ tb Xb mb):EvB K Er S OO σ (tOp (rI MG λi j=>.int (i^j.toNat)) ta tb) Xb (ma.bind λa=>mb.bind λb=>Es a b):=
 Ue (λK H i j c h=>by obtain⟨h1,h2⟩:=Zj h;cases h2;exact⟨h1,rfl⟩) (λi j x=>Z7) ha hb
theorem XU {ta tb:TE}{ma mb:Rs Int}(ha:EvB K Er S OO σ ta Xb ma)(hb:EvB K Er S OO σ tb Xb mb):EvB K Er S OO σ (tOp (rI0 λi j=>.int (i+j)) ta tb) Xb (ma.bind λa=>mb.bind λb=>.ok (a+b)):=QG (λ_ _ _ _=>rfl) ha hb
theorem J1 {ta tb:TE}{ma mb:Rs Int}(ha:EvB K Er S OO σ ta Xb ma)(hb:EvB K Er S OO σ tb Xb mb):EvB K Er S OO σ (tOp (rI0 λi j=>.int (i-j)) ta tb) Xb (ma.bind λa=>mb.bind λb=>.ok (a-b)):=QG (λ_ _ _ _=>rfl) ha hb
theorem Js {ta tb:TE}{ma mb:Rs Int}(ha:EvB K Er S OO σ ta Xb ma)(hb:EvB K Er S OO σ tb Xb mb):EvB K Er S OO σ (tOp (rI0 λi j=>.bl (decide (i<j))) ta tb) Xl (ma.bind λa=>mb.bind λb=>.ok (decide (a<b))):=QG (λ_ _ _ _=>rfl) ha hb
theorem IA {ta tb:TE}{ma mb:Rs Int}(ha:EvB K Er S OO σ ta Xb ma)(hb:EvB K Er S OO σ tb Xb mb):EvB K Er S OO σ (tOp (rI0 λi j=>.bl (decide (i<=j))) ta tb) Xl (ma.bind λa=>mb.bind λb=>.ok (decide (a<=b))):=QG (λ_ _ _ _=>rfl) ha hb
theorem U8 {ta tb:TE}{ma mb:Rs Int}(ha:EvB K Er S OO σ ta Xb ma)(hb:EvB K Er S OO σ tb Xb mb):EvB K Er S OO σ (tOp (rI0 λi j=>.bl (decide (j<i))) ta tb) Xl (ma.bind λa=>mb.bind λb=>.ok (decide (b<a))):=QG (λ_ _ _ _=>rfl) ha hb
theorem Iz {ta tb:TE}{ma mb:Rs Int}(ha:EvB K Er S OO σ ta Xb ma)(hb:EvB K Er S OO σ tb Xb mb):EvB K Er S OO σ (tOp (rI0 λi j=>.bl (decide (j<=i))) ta tb) Xl (ma.bind λa=>mb.bind λb=>.ok (decide (b<=a))):=QG (λ_ _ _ _=>rfl) ha hb
theorem Y0 {ta:TE}{ma:Rs Int}(ha:EvB K Er S OO σ ta Xb ma):EvB K Er S OO σ (tUn (rU λi=>.int (-i)) ta) Xb (ma.bind λa=>.ok (-a)):=λH Q w s P=>
 ha.run w s FB.tr P λa x H1 s1 w1 q1 r1 P1=>⟨a,r1,P1 _ H1 (Xo.refl _) rfl⟩
class Scal {α:Type}[DecidableEq α](r:Enc α):Prop where
 to:∀{K:PySem.W.Frag}{H H':Hp}{x y:V}{a b:α},r K H x a->r K H' y b->LY x y=true/\decide (x=y)=decide (a=b)
instance:Scal Xb:=⟨fun {K H H' x y a b} h1 h2=>by cases(show x= .int a from h1);cases(show y= .int b from h2);exact⟨rfl,by simp⟩⟩
instance:Scal Xl:=⟨fun {K H H' x y a b} h1 h2=>by cases(show x= .bl a from h1);cases(show y= .bl b from h2);exact⟨rfl,by simp⟩⟩
instance:Scal Xt:=⟨fun {K H H' x y a b} h1 h2=>by cases(show x= .str a from h1);cases(show y= .str b from h2);exact⟨rfl,by simp⟩⟩
theorem Vu [DecidableEq α]{r:Enc α}[z:Scal r][MonoE r]{ta tb:TE}{ma mb:Rs α}(ha:EvB K Er S OO σ ta r ma)(hb:EvB K Er S OO σ tb r mb):EvB K Er S OO σ (tOp rEq ta tb) Xl (ma.bind λa=>mb.bind λb=>.ok (decide (a=b))):=λH Q w s P=>
 ha.run w s FB.tr P λa x H1 s1 w1 q1 r1 P1=>hb.run w1 q1 FB.tr P1 λb y H2 s2 w2 q2 r2 P2=>by
  obtain⟨h1,h2⟩:=z.to r1 r2
  exact⟨h1,P2 _ H2 (Xo.refl _) (by rw[h2];rfl)⟩
theorem VD [DecidableEq α]{r:Enc α}[z:Scal r][MonoE r]{ta tb:TE}{ma mb:Rs α}(ha:EvB K Er S OO σ ta r ma)(hb:EvB K Er S OO σ tb r mb):EvB K Er S OO σ (tOp rNe ta tb) Xl (ma.bind λa=>mb.bind λb=>.ok (!decide (a=b))):=λH Q w s P=>
 ha.run w s FB.tr P λa x H1 s1 w1 q1 r1 P1=>hb.run w1 q1 FB.tr P1 λb y H2 s2 w2 q2 r2 P2=>by
  obtain⟨h1,h2⟩:=z.to r1 r2
  exact⟨h1,P2 _ H2 (Xo.refl _) (by rw[h2];rfl)⟩
theorem KN [DecidableEq α]{r:Enc α}[z:MonoE r]{ta tb:TE}{ma mb:Rs α}(ha:EvB K Er S OO σ ta r ma)(hb:EvB K Er S OO σ tb r mb):EvB K Er S OO σ (tOp (MC K r) ta tb) Xl (ma.bind λa=>mb.bind λb=>.ok (decide (a=b))):=λH Q w s P=>
 ha.run w s FB.tr P λa x H1 s1 w1 q1 r1 P1=>hb.run w1 q1 FB.tr P1 λb y H2 s2 w2 q2 r2 P2=>⟨a,b,z.mono s2 r1,r2,P2 _ H2 (Xo.refl _) rfl⟩
theorem DI [DecidableEq α]{r:Enc α}[z:MonoE r]{ta tb:TE}{ma mb:Rs α}(ha:EvB K Er S OO σ ta r ma)(hb:EvB K Er S OO σ tb r mb):EvB K Er S OO σ (tOp (ME K r) ta tb) Xl (ma.bind λa=>mb.bind λb=>.ok (!decide (a=b))):=λH Q w s P=>
 ha.run w s FB.tr P λa x H1 s1 w1 q1 r1 P1=>hb.run w1 q1 FB.tr P1 λb y H2 s2 w2 q2 r2 P2=>⟨a,b,z.mono s2 r1,r2,P2 _ H2 (Xo.refl _) rfl⟩
theorem Zm {te:TE}{m:Rs Bool}(h:EvB K Er S OO σ te Xl m):EvT Er S OO σ (tB te) m:=λH Q w s P=>h H _ w s (by
 cases m with
 |bad=>exact P
 |err x=>exact P
 |ok a=>exact λv H' s' r=>⟨a,r,P H' s'⟩)
theorem Xs {te:TE}{m:Rs Bool}(h:EvB K Er S OO σ te Xl m):EvT Er S OO σ (IF te) m:=Zm h
theorem Yz {t:TT}{m:Rs Bool}(h:EvT Er S OO σ t m):EvT Er S OO σ (Mz t) (m.bind λb=>.ok (!b)):=λH Q w s P=>h.run w s FT.tr P λb H1 s1 w1 q1 P1=>P1 H1 (Xo.refl _)
noncomputable def L6 (a b:Rs Bool):Rs Bool:=a.bind λx=>if x=true then b else .ok false
noncomputable def orR (a b:Rs Bool):Rs Bool:=a.bind λx=>if x=true then .ok true else b
theorem ZM {t u:TT}{m n:Rs Bool}(h:EvT Er S OO σ t m)(k:EvT Er S OO σ u n):EvT Er S OO σ (tOr t u) (orR m n):=λH Q w s P=>h.run w s FT.tr P λb H1 s1 w1 q1 P1=>by
 cases b with
 |true=>exact P1 H1 (Xo.refl _)
 |false=>exact k H1 Q w1 q1 P1
theorem Gg {t:TE}{m:Rs Bool}(h:EvB K Er S OO σ t Xl m):EvB K Er S OO σ (Ll t) Xl (m.bind λb=>.ok (!b)):=λH Q w s P=>h.run w s FB.tr P λb x H1 s1 w1 q1 r1 P1=>⟨b,r1,P1 _ H1 (Xo.refl _) rfl⟩
theorem Gw {t u:TE}{m n:Rs Bool}(h:EvB K Er S OO σ t Xl m)(k:EvB K Er S OO σ u Xl n):EvB K Er S OO σ (Ir t u) Xl (L6 m n):=λH Q w s P=>h.run w s FB.tr P λb x H1 s1 w1 q1 r1 P1=>⟨b,r1,by
 cases b with
 |true=>rw[if_pos rfl] at P1⊢;exact k H1 Q w1 q1 P1
 |false=>exact P1 _ H1 (Xo.refl _) rfl⟩
theorem Dx {t u:TE}{m n:Rs Bool}(h:EvB K Er S OO σ t Xl m)(k:EvB K Er S OO σ u Xl n):EvB K Er S OO σ (MI t u) Xl (orR m n):=λH Q w s P=>h.run w s FB.tr P λb x H1 s1 w1 q1 r1 P1=>⟨b,r1,by
 cases b with
 |true=>exact P1 _ H1 (Xo.refl _) rfl
 |false=>exact k H1 Q w1 q1 P1⟩
theorem IK {c:TT}{ta tb:TE}{r:Enc α}{mc:Rs Bool}{ma mb:Rs α}(hc:EvT Er S OO σ c mc)(ha:EvB K Er S OO σ ta r ma)(hb:EvB K Er S OO σ tb r mb):EvB K Er S OO σ (tIf c ta tb) r (mc.bind λb=>if b=true then ma else mb):=λH Q w s P=>
 hc.run w s FB.tr P λb H1 s1 w1 q1 P1=>by
  cases b with
  |true=>rw[if_pos rfl] at P1⊢;exact ha H1 Q w1 q1 P1
  |false=>exact hb H1 Q w1 q1 P1
theorem HU {c:TT}{ta tb:TE}{o:OE α}{mc:Rs Bool}{ma mb:Rs α}(hc:EvT Er S OO σ c mc)(ha:Ev K Er S OO OO' σ ta o ma)(hb:Ev K Er S OO OO' σ tb o mb):Ev K Er S OO OO' σ (tIf c ta tb) o (mc.bind λb=>if b=true then ma else mb):=λH Q w s P=>
 hc.run w s FO.tr P λb H1 s1 w1 q1 P1=>by
  cases b with
  |true=>rw[if_pos rfl] at P1⊢;exact ha H1 Q w1 q1 P1
  |false=>exact hb H1 Q w1 q1 P1
end
section
variable (K:PySem.W.Frag)(Er:Exc->Hp->Prop)(S:SC)(OO:List (List Xn))(σ:St)
noncomputable def FS {α:Type}(r:Enc α)(Q:VK)(a:α)(H:Hp):Prop:=∀ v H',Xo H H'->r K (hid H' OO) v a->Q v H'
noncomputable def EvS {α:Type}(te:TE)(r:Enc α)(m:Rs α):Prop:=∀ H Q,W OO H->S.p (hid H OO)->PZ Er (FS K OO r Q) H m->te σ H Q
noncomputable def rE {α:Type}(r:Enc α)(H:Hp)(v:V)(as:List α):Prop:=∃ p xs,v= .ref p/\H p=some (.lst xs)/\Paired (r K (hid H OO)) xs as
noncomputable def FL {α:Type}(r:Enc α)(Q:VK)(as:List α)(H:Hp):Prop:=∀ v H',Xo H H'->rE K OO r H' v as->Q v H'
noncomputable def EvL {α:Type}(te:TE)(r:Enc α)(m:Rs (List α)):Prop:=∀ H Q,W OO H->S.p (hid H OO)->PZ Er (FL K OO r Q) H m->te σ H Q
end
section
variable {K:PySem.W.Frag}{Er:Exc->Hp->Prop}{S:SC}{OO OO' OO2:List (List Xn)}{σ:St}{α β γ:Type}
theorem FS.tr {r:Enc α}{Q:VK}:∀a H H',Xo H H'->FS K OO r Q a H->FS K OO r Q a H':=λa H H' s h v H2 s2 q=>h v H2 (s.trans s2) q
theorem FL.tr {r:Enc α}{Q:VK}:∀a H H',Xo H H'->FL K OO r Q a H->FL K OO r Q a H':=λa H H' s h v H2 s2 q=>h v H2 (s.trans s2) q
theorem PZ.run {F:β->Hp->Prop}{f:α->Rs β}{H H':Hp}{a:α}{m:Rs α}(hm:m= .ok a)(hF:∀b H H',Xo H H'->F b H->F b H')(s:Xo H H')(P:PZ Er F H (m.bind f)):PZ Er F H' (f a):=by
 subst hm
 have P':PZ Er F H (f a):=P
 revert P'
 cases f a with
 |bad=>exact λz=>z
 |err x=>exact λz H2 s2=>z H2 (s.trans s2)
 |ok b=>exact λz=>hF b H H' s z
theorem EvS.run {te:TE}{r:Enc α}{m:Rs α}(he:EvS K Er S OO σ te r m){H:Hp}{Q:VK}(w:W OO H)(s:S.p (hid H OO)){f:α->Rs β}{F:β->Hp->Prop}(hF:∀b H H',Xo H H'->F b H->F b H')(P:PZ Er F H (m.bind f))
  (hk:∀a v H',Xo H H'->W OO H'->S.p (hid H' OO)->r K (hid H' OO) v a->PZ Er F H' (f a)->Q v H'):te σ H Q:=by
 refine he H Q w s ?_
 cases e:m with
 |bad=>rw[e] at P;exact P
 |err x=>rw[e] at P;exact P
 |ok a=>exact λv H' s' hr=>hk a v H' s' (w.keep s') (S.mono _ _ (Xk s') s) hr (PZ.run e hF s' P)
theorem EvL.run {te:TE}{r:Enc α}{m:Rs (List α)}(he:EvL K Er S OO σ te r m){H:Hp}{Q:VK}(w:W OO H)(s:S.p (hid H OO)){f:List α->Rs β}{F:β->Hp->Prop}(hF:∀b H H',Xo H H'->F b H->F b H')(P:PZ Er F H (m.bind f))
  (hk:∀a v H',Xo H H'->W OO H'->S.p (hid H' OO)->rE K OO r H' v a->PZ Er F H' (f a)->Q v H'):te σ H Q:=by
 refine he H Q w s ?_
 cases e:m with
 |bad=>rw[e] at P;exact P
 |err x=>rw[e] at P;exact P
 |ok a=>exact λv H' s' hr=>hk a v H' s' (w.keep s') (S.mono _ _ (Xk s') s) hr (PZ.run e hF s' P)
theorem PZ.imp {F G:β->Hp->Prop}{H:Hp}{m:Rs β}(P:PZ Er F H m)(h:∀b,m= .ok b->F b H->G b H):PZ Er G H m:=by
 cases m with
 |bad=>exact P
 |err x=>exact P
 |ok b=>exact h b rfl P
theorem EvS.toB {te:TE}{r:Enc α}[z:MonoE r]{m:Rs α}(he:EvS K Er S OO σ te r m):EvB K Er S OO σ te r m:=λH Q w s P=>he H Q w s (P.imp λb _ h v H' s' q=>h v H' s' (z.mono Xu q))
theorem EvS.ev {te:TE}{r:Enc α}{m:Rs α}(he:EvS K Er S OO σ te r m):Ev K Er S OO OO σ te (oF r) m:=λH Q w s P=>he H Q w s (P.imp λb _ h v H' s' q=>
 h v [] H' s' (w.keep s').nil (by rw[Y1];exact Xk s') ⟨rfl,by rw[Y1];exact q⟩)
theorem EvB.sh {te:TE}{r:Enc α}[z:FlatE r]{m:Rs α}(he:EvB K Er S OO σ te r m):EvS K Er S OO σ te r m:=λH Q w s P=>he H Q w s (P.imp λb _ h v H' s' q=>h v H' s' (z.flat (w.keep s').i q))
theorem Ev.sh {te:TE}{o:OE α}{r:Enc α}[z:FrzC o r]{m:Rs α}(he:Ev K Er S OO OO σ te o m):EvS K Er S OO σ te r m:=λH Q w s P=>he.frz H Q w s (P.imp λb _ h v C H' s' w' m' q=>by
 obtain⟨rfl,q⟩:=q
 rw[Y1] at q
 exact h v H' s' q)
theorem Xq {r:Enc α}{v:V}{a:α}(i:Nat)(hσ:σ[i]?=some (some v))(h:∀x,S.p x->r K x v a):EvS K Er S OO σ (Ux i) r (.ok a):=λH Q w s P=>⟨v,hσ,P v H (Xo.refl _) (h _ s)⟩
theorem EvS.ls {te:TE}{r:Enc α}{m:Rs (List α)}(he:EvS K Er S OO σ te (rV r) m):EvL K Er S OO σ te r m:=λH Q w s P=>he H Q w s (P.imp λb _ h v H' s' r9=>by obtain⟨p,xs,e,q,pr⟩:=r9;exact h v H' s' ⟨p,xs,e,Xu _ _ q,pr⟩)
theorem EvB.ls {te:TE}{r:Enc α}[z:FlatE r]{m:Rs (List α)}(he:EvB K Er S OO σ te (rV r) m):EvL K Er S OO σ te r m:=λH Q w s P=>he H Q w s (P.imp λb _ h v H' s' r9=>by obtain⟨p,xs,e,q,pr⟩:=r9;exact h v H' s' ⟨p,xs,e,q,Paired.imp2 (λ_ _ z'=>z.flat (w.keep s').i z') pr⟩)
theorem Ev.ls {te:TE}{r:Enc α}[z:MonoE r]{m:Rs (List α)}(he:Ev K Er S OO OO σ te (oL (oF r)) m):EvL K Er S OO σ te r m:=he.sh.ls
noncomputable def atR (as:List α)(i:Int):Rs α:=match atI as i with
 |some a=>.ok a
 |none=>.bad
theorem Dy {as:List α}{i:Int}{a:α}(h:atR as i= .ok a):atI as i=some a:=by
 unfold atR at h;split at h
 ·cases h;assumption
 ·cases h
theorem Fq {as:List α}{i:Int}{x:Exc}:atR as i≠ .err x:=by unfold atR;split<;> exact λz=>nomatch z
theorem Vr {F:V->α->Prop}{xs:List V}{as:List α}{i:Int}{a:α}(p:Paired F xs as)(h:atI as i=some a):∃x,atI xs i=some x/\F x a:=by
 unfold atI at h⊢
 rw[Paired.len p]
 cases e:ixN as.length i with
 |none=>rw[e] at h;cases h
 |some j=>
  rw[e] at h
  obtain⟨x,h1,h2⟩:=Paired.getR p h
  exact⟨x,h1,h2⟩
theorem PZ.okOf {F:β->Hp->Prop}{H:Hp}{m:Rs β}(he:∀x,m≠ .err x)(P:PZ Er F H m):∃b,m= .ok b/\F b H:=by
 cases m with
 |bad=>exact P.elim
 |err x=>exact absurd rfl (he x)
 |ok b=>exact⟨b,rfl,P⟩
theorem Yc {ta tb:TE}{r:Enc α}[z:MonoE r]{ma:Rs (List α)}{mb:Rs Int}(ha:EvB K Er S OO σ ta (rV r) ma)(hb:EvB K Er S OO σ tb Xb mb):EvB K Er S OO σ (tOp (IW K) ta tb) r (ma.bind λas=>mb.bind λi=>atR as i):=λH Q w s P=>
 ha.run w s FB.tr P λa x H1 s1 w1 q1 ⟨p,xs,e,q,pr⟩ P1=>hb.run w1 q1 FB.tr P1 λb y H2 s2 w2 q2 r2 P2=>by
  obtain⟨c,hc,P3⟩:=P2.okOf λx=>Fq
  obtain⟨u,h1,h2⟩:=Vr pr (Dy hc)
  exact⟨p,xs,b,u,e,r2,SqL.of (s2 _ _ q),h1,P3 u H2 (Xo.refl _) (z.mono s2 h2)⟩
theorem QE {ta:TE}{r:Enc α}{q:Enc β}{m:Rs (α×β)}(ha:EvB K Er S OO σ ta (rP2 r q) m):EvB K Er S OO σ (tOp (CN K) ta (tC (.int 0))) r (m.bind λp=>.ok p.1):=λH Q w s P=>
 ha.run w s FB.tr P λa x H1 s1 w1 q1 r9 P1=>by obtain⟨p,x,y,e,q,h1,h2⟩:=r9;exact⟨p,_,0,x,e,rfl,SqT.of q,rfl,P1 _ H1 (Xo.refl _) h1⟩
theorem Z9 {ta:TE}{r:Enc α}{q:Enc β}{m:Rs (α×β)}(ha:EvB K Er S OO σ ta (rP2 r q) m):EvB K Er S OO σ (tOp (CN K) ta (tC (.int 1))) q (m.bind λp=>.ok p.2):=λH Q w s P=>
 ha.run w s FB.tr P λa x H1 s1 w1 q1 r9 P1=>by obtain⟨p,x,y,e,q,h1,h2⟩:=r9;exact⟨p,_,1,y,e,rfl,SqT.of q,rfl,P1 _ H1 (Xo.refl _) h2⟩
theorem Qg {ta:TE}{r:Enc α}{q:Enc β}{m:Rs (α×β)}(ha:EvS K Er S OO σ ta (rP2 r q) m):EvS K Er S OO σ (tOp (CN K) ta (tC (.int 0))) r (m.bind λp=>.ok p.1):=λH Q w s P=>
 ha.run w s FS.tr P λa x H1 s1 w1 q1 r9 P1=>by obtain⟨p,x,y,e,q,h1,h2⟩:=r9;exact⟨p,_,0,x,e,rfl,SqT.of (Xu _ _ q),rfl,P1 _ H1 (Xo.refl _) h1⟩
theorem QF {ta:TE}{r:Enc α}{q:Enc β}{m:Rs (α×β)}(ha:EvS K Er S OO σ ta (rP2 r q) m):EvS K Er S OO σ (tOp (CN K) ta (tC (.int 1))) q (m.bind λp=>.ok p.2):=λH Q w s P=>
 ha.run w s FS.tr P λa x H1 s1 w1 q1 r9 P1=>by obtain⟨p,x,y,e,q,h1,h2⟩:=r9;exact⟨p,_,1,y,e,rfl,SqT.of (Xu _ _ q),rfl,P1 _ H1 (Xo.refl _) h2⟩
theorem Y3 {ta:TE}{r:Enc α}{m:Rs (List α)}(ha:EvB K Er S OO σ ta (rV r) m):EvB K Er S OO σ (tCB (UG K) (XT ta ZO)) Xb (m.bind λas=>.ok (as.length:Int)):=λH Q w s P=>
 ha.run w s FB.tr P λa x H1 s1 w1 q1 r9 P1=>by obtain⟨p,xs,e,q,pr⟩:=r9;exact⟨p,xs,by rw[e], .inl (SqL.of q),P1 _ H1 (Xo.refl _) (by rw[Paired.len pr];rfl)⟩
theorem Bo {ta:TE}{r:Enc α}{m:Rs (List α)}(ha:EvB K Er S OO σ ta (rPL r) m):EvB K Er S OO σ (tCB (UG K) (XT ta ZO)) Xb (m.bind λas=>.ok (as.length:Int)):=λH Q w s P=>
 ha.run w s FB.tr P λa x H1 s1 w1 q1 r9 P1=>by obtain⟨p,xs,e,q,pr⟩:=r9;exact⟨p,xs,by rw[e], .inr (SqT.of q),P1 _ H1 (Xo.refl _) (by rw[Paired.len pr];rfl)⟩
theorem Ig {r:Enc α}[z:MonoE r]{xs:List V}{as:List α}{H:Hp}{Q:VK}(w:W OO H)(pr:Paired (r K (hid H OO)) xs as)(P:FO K OO OO (oL (oF r)) Q as H):∀p,H p=none->Q (.ref p) (upd H p (.lst xs)):=λp hp=>by
 have hn:=JH (OO:=OO) hp (o:=.lst xs)
 refine P (.ref p) [(p, .lst xs)] _ (Yl hp _) (w.new hp rfl) hn ?_
 refine⟨p,xs,List.replicate as.length [],rfl,(P3.of (Paired.imp2 (λ_ _ h=>z.mono hn h) pr)).imp λ_ _ _ h=>h,by rw[Yd]⟩
theorem Paired.take' {F:α->β->Prop}:∀{l:List α}{m:List β} (n:Nat),Paired F l m->Paired F (l.take n) (m.take n)
 |_,_,0,_=>.nil
 |_,_,_+1, .nil=>.nil
 |_,_,n+1, .cons r t=>.cons r (Paired.take' n t)
theorem Paired.drop' {F:α->β->Prop}:∀{l:List α}{m:List β} (n:Nat),Paired F l m->Paired F (l.drop n) (m.drop n)
 |_,_,0,h=>h
 |_,_,_+1, .nil=>.nil
 |_,_,n+1, .cons _ t=>Paired.drop' n t
theorem Paired.rep' {F:α->β->Prop}{l:List α}{m:List β}(h:Paired F l m):∀n:Nat,Paired F (List.replicate n l).flatten (List.replicate n m).flatten
 |0=>.nil
 |n+1=>by simp only[List.replicate_succ,List.flatten_cons];exact Paired.app h (Paired.rep' h n)
noncomputable def LH (as:List α)(lo hi:Option Int):List α:=(as.drop (HT.sIx as.length 0 lo)).take (HT.sIx as.length as.length hi-HT.sIx as.length 0 lo)
theorem GS {F:V->α->Prop}{xs:List V}{as:List α}(p:Paired F xs as)(lo hi:Option Int):Paired F (Ib xs lo hi) (LH as lo hi):=by
 unfold Ib LH;rw[Paired.len p];exact Paired.take' _ (Paired.drop' _ p)
noncomputable def FP (Q:Option Int->Hp->Prop)(a:Option Int)(H:Hp):Prop:=∀ H',Xo H H'->Q a H'
noncomputable def EvP (Er:Exc->Hp->Prop)(S:SC)(OO:List (List Xn))(σ:St)(t:TO)(m:Rs (Option Int)):Prop:=∀ H Q,W OO H->S.p (hid H OO)->PZ Er (FP Q) H m->t σ H Q
theorem EvP.run {t:TO}{m:Rs (Option Int)}(he:EvP Er S OO σ t m){H:Hp}{Q:Option Int->Hp->Prop}(w:W OO H)(s:S.p (hid H OO)){f:Option Int->Rs β}{F:β->Hp->Prop}(hF:∀b H H',Xo H H'->F b H->F b H')(P:PZ Er F H (m.bind f))
  (hk:∀a H',Xo H H'->W OO H'->S.p (hid H' OO)->PZ Er F H' (f a)->Q a H'):t σ H Q:=by
 refine he H Q w s ?_
 cases e:m with
 |bad=>rw[e] at P;exact P
 |err x=>rw[e] at P;exact P
 |ok a=>exact λH' s'=>hk a H' s' (w.keep s') (S.mono _ _ (Xk s') s) (PZ.run e hF s' P)
theorem Jf:EvP Er S OO σ Ft (.ok none):=λH Q w s P=>P H (Xo.refl _)
theorem ZZ {te:TE}{m:Rs Int}(h:EvB K Er S OO σ te Xb m):EvP Er S OO σ (Lw te) (m.bind λi=>.ok (some i)):=λH Q w s P=>
 h.run w s (λ_ _ _ s h H2 s2=>h H2 (s.trans s2)) P λa v H1 s1 w1 q1 r1 P1=>⟨a,r1,P1 H1 (Xo.refl _)⟩
theorem Bj {ta:TE}{r:Enc α}{m:Rs (List α)}(ha:EvB K Er S OO σ ta (rL r) m):EvB K Er S OO σ (tCB (UG K) (XT ta ZO)) Xb (m.bind λas=>.ok (as.length:Int)):=λH Q w s P=>
 ha.run w s FB.tr P λa x H1 s1 w1 q1 r9 P1=>by obtain⟨p,xs,e,q,pr⟩:=r9;exact⟨p,xs,by rw[e], .inl q,P1 _ H1 (Xo.refl _) (by rw[Paired.len pr];rfl)⟩
theorem Hy {ta tb:TE}{ma:Rs (List Int)}{mb:Rs Int}(ha:EvB K Er S OO σ ta (rL Xb) ma)(hb:EvB K Er S OO σ tb Xb mb):EvB K Er S OO σ (tOp (IW K) ta tb) Xb (ma.bind λas=>mb.bind λi=>atR as i):=λH Q w s P=>
 ha.run w s FB.tr P λa x H1 s1 w1 q1 ⟨p,xs,e,q,pr⟩ P1=>hb.run w1 q1 FB.tr P1 λb y H2 s2 w2 q2 r2 P2=>by
  obtain⟨c,hc,P3⟩:=P2.okOf λx=>Fq
  obtain⟨u,h1,h2⟩:=Vr pr (Dy hc)
  exact⟨p,xs,b,u,e,r2,s2.seq q,h1,P3 u H2 (Xo.refl _) h2⟩
theorem DP {te:TE}{tl th:TO}{m:Rs (List Int)}{ml mh:Rs (Option Int)}(he:EvB K Er S OO σ te (rL Xb) m)(hl:EvP Er S OO σ tl ml)(hh:EvP Er S OO σ th mh):
  Ev K Er S OO OO σ (tSl (LZ K) te tl th) (oL (oF Xb)) (m.bind λas=>ml.bind λlo=>mh.bind λhi=>.ok (LH as lo hi)):=λH Q w s P=>
 he.run w s FO.tr P λas x H1 s1 w1 q1 ⟨p,xs,e,q,pr⟩ P1=>hl.run w1 q1 FO.tr P1 λlo H2 s2 w2 q2 P2=>hh.run w2 q2 FO.tr P2 λhi H3 s3 w3 q3 P3'=>
  ⟨p,xs,e,s3.seq (s2.seq q),Ig w3 (GS (Paired.imp2 (λ_ _ h=>h) pr) lo hi) P3'⟩
noncomputable def Ic (as bs:List α):Rs (List α):=chk (as.length+bs.length<=sizeLine) (.ok (as++bs))
theorem BZ {ta tb:TE}{r:Enc α}[z:MonoE r]{ma mb:Rs (List α)}(ha:EvL K Er S OO σ ta r ma)(hb:EvL K Er S OO σ tb r mb):Ev K Er S OO OO σ (tOp MQ ta tb) (oL (oF r)) (ma.bind λas=>mb.bind λbs=>Ic as bs):=λH Q w s P=>
 ha.run w s FO.tr P λas x H1 s1 w1 q1 ⟨p,xs,e,q,pr⟩ P1=>hb.run w1 q1 FO.tr P1 λbs y H2 s2 w2 q2 ⟨p',ys,e',q',pr'⟩ P2=>by
  obtain⟨c,hc,P3⟩:=P2.okOf λx=>Z7
  obtain⟨h1,h2⟩:=Zj hc
  cases h2
  exact⟨p,p',xs,ys,e,e',s2 _ _ q,q',by rw[Paired.len pr,Paired.len pr'];exact h1,Ig w2 (Paired.app (Paired.imp2 (λ_ _ h=>z.mono (Xk s2) h) pr) pr') P3⟩
noncomputable def HG (as:List α)(n:Int):Rs (List α):=chk (-(2^63)<=n/\n<2^63/\as.length*n.toNat<=sizeLine) (.ok (List.replicate n.toNat as).flatten)
theorem Ez {ta tb:TE}{r:Enc α}[z:MonoE r]{ma:Rs (List α)}{mb:Rs Int}(ha:EvL K Er S OO σ ta r ma)(hb:EvB K Er S OO σ tb Xb mb):Ev K Er S OO OO σ (tOp MH ta tb) (oL (oF r)) (ma.bind λas=>mb.bind λn=>HG as n):=λH Q w s P=>
 ha.run w s FO.tr P λas x H1 s1 w1 q1 ⟨p,xs,e,q,pr⟩ P1=>hb.run w1 q1 FO.tr P1 λn y H2 s2 w2 q2 r2 P2=>by
  obtain⟨c,hc,P3⟩:=P2.okOf λx=>Z7
  obtain⟨⟨h0,h1,h3⟩,h2⟩:=Zj hc
  cases h2
  exact⟨p,n,xs,e,r2,s2 _ _ q,h0,h1,by rw[Paired.len pr];exact h3,Ig w2 (Paired.rep' (Paired.imp2 (λ_ _ h=>z.mono (Xk s2) h) pr) _) P3⟩
theorem KR {ta:TE}{r:Enc α}[z:MonoE r]{ma:Rs (List α)}(ha:EvL K Er S OO σ ta r ma):Ev K Er S OO OO σ (tCB (DZ K) (XT ta ZO)) (oL (oF r)) (ma.bind λas=>.ok as):=λH Q w s P=>
 ha.run w s FO.tr P λas x H1 s1 w1 q1 r9 P1=>by obtain⟨p,xs,e,q,pr⟩:=r9;exact⟨p,xs,by rw[e], .inl (SqL.of q),Ig w1 pr P1⟩
noncomputable def Vo (lo hi:Int):List Int:=(List.range (hi-lo).toNat).map λ(i:Nat)=>lo+(i:Int)
theorem Qk {o:OE α}:Ev K Er S OO OO σ (L5 ZO) (oL o) (.ok []):=λH Q w s P=>⟨Nat.zero_le _,λp hp=>P (.ref p) [(p, .lst [])] _ (Yl hp _) (w.new hp rfl) (JH hp) ⟨p,[],[],rfl, .nil,rfl⟩⟩
noncomputable def FA {α:Type}(K:PySem.W.Frag)(OO:List (List Xn))(r:Enc α)(Q:List V->Hp->Prop)(as:List α)(H:Hp):Prop:=∀ vs H',Xo H H'->Paired (r K (hid H' OO)) vs as->Q vs H'
noncomputable def EvA {α:Type}(K:PySem.W.Frag)(Er:Exc->Hp->Prop)(S:SC)(OO:List (List Xn))(σ:St)(t:TA)(r:Enc α)(m:Rs (List α)):Prop:=∀ H Q,W OO H->S.p (hid H OO)->PZ Er (FA K OO r Q) H m->t σ H Q
theorem Y4 {r:Enc α}:EvA K Er S OO σ ZO r (.ok []):=λH Q w s P=>P [] H (Xo.refl _) .nil
theorem Xy {te:TE}{t:TA}{r:Enc α}[z:MonoE r]{m:Rs α}{n:Rs (List α)}(he:EvS K Er S OO σ te r m)(ht:EvA K Er S OO σ t r n):EvA K Er S OO σ (XT te t) r (m.bind λa=>n.bind λas=>.ok (a::as)):=λH Q w s P=>
 he.run w s (λb H H' s h vs H2 s2 p=>h vs H2 (s.trans s2) p) P λa x H1 s1 w1 q1 r1 P1=>by
  refine ht H1 _ w1 q1 ?_
  cases e:n with
  |bad=>rw[e] at P1;exact P1
  |err x=>rw[e] at P1;exact P1
  |ok as=>rw[e] at P1;exact λvs H2 s2 p=>P1 (x::vs) H2 s2 (.cons (z.mono (Xk s2) r1) p)
theorem Q2 {t:TA}{r:Enc α}[z:MonoE r]{m:Rs (List α)}(h:EvA K Er S OO σ t r m):Ev K Er S OO OO σ (L5 t) (oL (oF r)) (m.bind λas=>chk (as.length<=sizeLine) (.ok as)):=λH Q w s P=>by
 refine h H _ w s ?_
 cases e:m with
 |bad=>rw[e] at P;exact P
 |err x=>rw[e] at P;exact P
 |ok as=>
  rw[e] at P
  intro vs H1 s1 p
  obtain⟨c,hc,P3⟩:=PZ.okOf (λx=>Z7) (show PZ Er _ H (chk (as.length<=sizeLine) (.ok as)) from P)
  obtain⟨h1,h2⟩:=Zj hc
  cases h2
  exact⟨by rw[Paired.len p];exact h1,Ig (w.keep s1) p (FO.tr _ _ _ s1 P3)⟩
theorem Jk {t:TA}{r:Enc α}[z:MonoE r]{m:Rs (List α)}(h:EvA K Er S OO σ t r m):EvS K Er S OO σ (LX t) (rPL r) (m.bind λas=>chk (as.length<=sizeLine) (.ok as)):=λH Q w s P=>by
 refine h H _ w s ?_
 cases e:m with
 |bad=>rw[e] at P;exact P
 |err x=>rw[e] at P;exact P
 |ok as=>
  rw[e] at P
  intro vs H1 s1 p
  obtain⟨c,hc,P3⟩:=PZ.okOf (λx=>Z7) (show PZ Er _ H (chk (as.length<=sizeLine) (.ok as)) from P)
  obtain⟨h1,h2⟩:=Zj hc
  cases h2
  have w1:=w.keep s1
  refine⟨by rw[Paired.len p];exact h1,λa ha=>P3 _ _ (s1.trans (Yl ha _)) ⟨a,vs,rfl,Jg w1 ha,Paired.imp2 (λ_ _ q=>z.mono (Xk (Yl ha _)) q) p⟩⟩
theorem Zq {ta tb:TE}{r:Enc α}{q:Enc β}[z:MonoE r][y:MonoE q]{ma:Rs α}{mb:Rs β}(ha:EvS K Er S OO σ ta r ma)(hb:EvS K Er S OO σ tb q mb):EvS K Er S OO σ (LX (XT ta (XT tb ZO))) (rP2 r q) (ma.bind λa=>mb.bind λb=>.ok (a,b)):=λH Q w s P=>
 ha.run w s FS.tr P λa x H1 s1 w1 q1 r1 P1=>hb.run w1 q1 FS.tr P1 λb y' H2 s2 w2 q2 r2 P2=>
  ⟨by show 2<=sizeLine;decide,λp hp=>P2 _ _ (Yl hp _) ⟨p,x,y',rfl,Jg w2 hp,z.mono ((Xk s2).trans (Xk (Yl hp _))) r1,y.mono (Xk (Yl hp _)) r2⟩⟩
end
section
variable {K:PySem.W.Frag}{Er:Exc->Hp->Prop}{S:SC}{OO OO' OO2:List (List Xn)}{σ:St}{α β γ ρ ι:Type}{α1 α2 α3 α4 α5 α6:Type}
noncomputable def noE (m:Rs α):Rs α:=match m with
 | .ok a=>.ok a
 |_=>.bad
theorem K8 {m:Rs α}{a:α}(h:noE m= .ok a):m= .ok a:=by
 cases m with
 |ok b=>exact h
 |bad=>cases h
 |err x=>cases h
theorem GC {m:Rs α}{x:Exc}:noE m≠ .err x:=by cases m<;> exact λz=>nomatch z
noncomputable def FF (K:PySem.W.Frag)(o:OE α)(Q:VK)(a:α)(H:Hp):Prop:=∀ v C H',W [C] H'->Xo H (hid H' [C])->o K (hid H' [C]) v a C->Q v H'
noncomputable def sp1 (r1:Enc α1)(o:OE ρ)(f:α1->Rs ρ)(K:PySem.W.Frag):Sp:=λvs H Q _=>∃ v1 a1 b,vs=[v1]/\r1 K H v1 a1/\f a1= .ok b/\FF K o Q b H
noncomputable def sp2 (r1:Enc α1)(r2:Enc α2)(o:OE ρ)(f:α1->α2->Rs ρ)(K:PySem.W.Frag):Sp:=λvs H Q _=>∃ v1 v2 a1 a2 b,vs=[v1,v2]/\r1 K H v1 a1/\r2 K H v2 a2/\f a1 a2= .ok b/\FF K o Q b H
noncomputable def sp3 (r1:Enc α1)(r2:Enc α2)(r3:Enc α3)(o:OE ρ)(f:α1->α2->α3->Rs ρ)(K:PySem.W.Frag):Sp:=λvs H Q _=>∃ v1 v2 v3 a1 a2 a3 b,vs=[v1,v2,v3]/\r1 K H v1 a1/\r2 K H v2 a2/\r3 K H v3 a3/\f a1 a2 a3= .ok b/\FF K o Q b H
noncomputable def sp4 (r1:Enc α1)(r2:Enc α2)(r3:Enc α3)(r4:Enc α4)(o:OE ρ)(f:α1->α2->α3->α4->Rs ρ)(K:PySem.W.Frag):Sp:=λvs H Q _=>∃ v1 v2 v3 v4 a1 a2 a3 a4 b,vs=[v1,v2,v3,v4]/\r1 K H v1 a1/\r2 K H v2 a2/\r3 K H v3 a3/\r4 K H v4 a4/\f a1 a2 a3 a4= .ok b/\FF K o Q b H
theorem Mm {C:List Xn}{H H':Hp}(w:W OO H)(w':W [C] H')(m':Xo H (hid H' [C])):W (C::OO) H'/\Xo (hid H OO) (hid H' (C::OO))/\Q8 (hid H' [C]) (hid H' (C::OO)):=by
 have s:Xo H H':=m'.trans Xu
 have f1:fl [C]=C.map (·.1):=by simp[fl]
 have hd:∀b,b∈fl OO->b∉C.map (·.1):=λb hb hc=>by
  obtain⟨u,hu⟩:=Fy hb
  exact(X6 (m' _ _ (w.tr _ hu))).2 (by rw[f1];exact hc)
 have w2:W (C::OO) H':=by
  refine⟨λc hc=>?_,?_,λc hc=>?_⟩
  ·rw[List.flatten_cons,List.mem_append] at hc
   rcases hc with hc |hc
   ·exact w'.tr c (by simp[hc])
   ·exact s _ _ (w.tr c hc)
  ·rw[X9]
   refine List.nodup_append.mpr ⟨by rw[←f1];exact w'.nd,w.nd,λa ha b hb e=>?_⟩
   subst e;exact hd a hb ha
  ·rw[List.flatten_cons,List.mem_append] at hc
   rcases hc with hc |hc
   ·exact w'.mu c (by simp[hc])
   ·exact w.mu c hc
 refine⟨w2,λb u q=>?_,λb u q i=>?_⟩
 ·obtain⟨q1,q2⟩:=X6 q
  obtain⟨q3,q4⟩:=X6 (m' _ _ q1)
  refine ZA q3 ?_
  rw[X9,List.mem_append]
  exact λz=>z.elim (λz=>q4 (by rw[f1];exact z)) q2
 ·exact w2.i b u (X6 q).1 i
theorem JI {o:OE α}[z:FlatO o]{Q:VK}{b:α}{H:Hp}(w:W OO H)(P:FO K OO OO o Q b H):FF K o Q b H:=λv C H' w' m' ho=>by
 obtain⟨w2,h2,h3⟩:=Mm w w' m'
 exact P v C H' (m'.trans Xu) w2 h2 (z.flat h3 ho)
theorem Ya {ta:TE}{r1:Enc α1}{o:OE ρ}[FlatO o]{f:α1->Rs ρ}{ma:Rs α1}(ha:EvB K Er S OO σ ta r1 ma):Ev K Er S OO OO σ (U5 (sp1 r1 o f K) [] E0 (XT ta ZO)) o (ma.bind λa=>noE (f a)):=λH Q w s P=>
 ha.run w s FO.tr P λa x H1 s1 w1 q1 r1 P1=>by
  obtain⟨b,hb,P2⟩:=P1.okOf λx=>GC
  exact⟨x,a,b,rfl,r1,K8 hb,JI w1 P2⟩
theorem Za {ta tb:TE}{r1:Enc α1}{r2:Enc α2}[z1:MonoE r1]{o:OE ρ}[FlatO o]{f:α1->α2->Rs ρ}{ma:Rs α1}{mb:Rs α2}(ha:EvB K Er S OO σ ta r1 ma)(hb:EvB K Er S OO σ tb r2 mb):
  Ev K Er S OO OO σ (U5 (sp2 r1 r2 o f K) [] E0 (XT ta (XT tb ZO))) o (ma.bind λa=>mb.bind λb=>noE (f a b)):=λH Q w s P=>
 ha.run w s FO.tr P λa x H1 s1 w1 q1 r1 P1=>hb.run w1 q1 FO.tr P1 λb y H2 s2 w2 q2 r2 P2=>by
  obtain⟨c,hc,P3⟩:=P2.okOf λx=>GC
  exact⟨x,y,a,b,c,rfl,z1.mono s2 r1,r2,K8 hc,JI w2 P3⟩
theorem Qo {ta tb tc:TE}{r1:Enc α1}{r2:Enc α2}{r3:Enc α3}[z1:MonoE r1][z2:MonoE r2]{o:OE ρ}[FlatO o]{f:α1->α2->α3->Rs ρ}{ma:Rs α1}{mb:Rs α2}{mc:Rs α3}(ha:EvB K Er S OO σ ta r1 ma)(hb:EvB K Er S OO σ tb r2 mb)(hc:EvB K Er S OO σ tc r3 mc):
  Ev K Er S OO OO σ (U5 (sp3 r1 r2 r3 o f K) [] E0 (XT ta (XT tb (XT tc ZO)))) o (ma.bind λa=>mb.bind λb=>mc.bind λc=>noE (f a b c)):=λH Q w s P=>
 ha.run w s FO.tr P λa x H1 s1 w1 q1 r1 P1=>hb.run w1 q1 FO.tr P1 λb y H2 s2 w2 q2 r2 P2=>hc.run w2 q2 FO.tr P2 λc z H3 s3 w3 q3 r3 P3=>by
  obtain⟨d,hd,P4⟩:=P3.okOf λx=>GC
  exact⟨x,y,z,a,b,c,d,rfl,z1.mono (s2.trans s3) r1,z2.mono s3 r2,r3,K8 hd,JI w3 P4⟩
theorem BN {ta tb tc td:TE}{r1:Enc α1}{r2:Enc α2}{r3:Enc α3}{r4:Enc α4}[z1:MonoE r1][z2:MonoE r2][z3:MonoE r3]{o:OE ρ}[FlatO o]{f:α1->α2->α3->α4->Rs ρ}{ma:Rs α1}{mb:Rs α2}{mc:Rs α3}{md:Rs α4}(ha:EvB K Er S OO σ ta r1 ma)(hb:EvB K Er S OO σ tb r2 mb)(hc:EvB K Er S OO σ tc r3 mc)(hd:EvB K Er S OO σ td r4 md):
  Ev K Er S OO OO σ (U5 (sp4 r1 r2 r3 r4 o f K) [] E0 (XT ta (XT tb (XT tc (XT td ZO))))) o (ma.bind λa=>mb.bind λb=>mc.bind λc=>md.bind λd=>noE (f a b c d)):=λH Q w s P=>
 ha.run w s FO.tr P λa x H1 s1 w1 q1 r1 P1=>hb.run w1 q1 FO.tr P1 λb y H2 s2 w2 q2 r2 P2=>hc.run w2 q2 FO.tr P2 λc z H3 s3 w3 q3 r3 P3=>hd.run w3 q3 FO.tr P3 λd u H4 s4 w4 q4 r4 P4=>by
  obtain⟨e,he,P5⟩:=P4.okOf λx=>GC
  exact⟨x,y,z,u,a,b,c,d,e,rfl,z1.mono (s2.trans (s3.trans s4)) r1,z2.mono (s3.trans s4) r2,z3.mono s4 r3,r4,K8 he,JI w4 P5⟩
structure Jn (γ ι:Type) where
 oo:ι->List (List Xn)
 ss:ι->St
 sc:γ->ι->SC
inductive Ctl (ρ γ:Type) where
 |ret (r:ρ) |nx (g:γ)
noncomputable def FTd (K:PySem.W.Frag)(o:OE ρ)(D:Ends)(r:ρ)(h:Hp):Prop:=∀ v C OO' H',W (C::OO') H'->Xo h (hid H' (C::OO'))->o K (hid H' (C::OO')) v r C->D.rt v H'
noncomputable def FNd (J:Jn γ ι)(D:Ends)(g:γ)(h:Hp):Prop:=∀ x H',W (J.oo x) H'->Xo h (hid H' (J.oo x))->(J.sc g x).p (hid H' (J.oo x))->D.nx (J.ss x) H'
noncomputable def FCd (K:PySem.W.Frag)(o:OE ρ)(J:Jn γ ι)(D:Ends)(c:Ctl ρ γ)(h:Hp):Prop:=match c with
 | .ret r=>FTd K o D r h
 | .nx g=>FNd J D g h
class FdOk (Fd:Ends->β->Hp->Prop):Prop where
 tr:∀D b h h',Xo h h'->Fd D b h->Fd D b h'
instance {o:OE ρ}:FdOk (FTd K o):=⟨λD b h h' s q v C O H' w m x=>q v C O H' w (s.trans m) x⟩
instance {J:Jn γ ι}:FdOk (FNd J):=⟨λD b h h' s q x H' w m y=>q x H' w (s.trans m) y⟩
instance {o:OE ρ}{J:Jn γ ι}:FdOk (FCd K o J):=⟨λD b h h' s q=>by
 cases b with
 |ret r=>exact λv C O H' w m x=>q v C O H' w (s.trans m) x
 |nx g=>exact λx H' w m y=>q x H' w (s.trans m) y⟩
theorem PZ.tr {F:β->Hp->Prop}(hF:∀b H H',Xo H H'->F b H->F b H'){H H':Hp}{m:Rs β}(s:Xo H H')(P:PZ Er F H m):PZ Er F H' m:=by
 cases m with
 |bad=>exact P
 |err x=>exact λH2 s2=>P H2 (s.trans s2)
 |ok b=>exact hF b H H' s P
noncomputable def Sv (Er:Exc->Hp->Prop)(S:SC)(OO:List (List Xn))(σ:St)(t:TS)(Fd:Ends->β->Hp->Prop)(m:Rs β):Prop:=∀ H D,W OO H->S.p (hid H OO)->PZ Er (Fd D) (hid H OO) m->t D σ H
variable {Fd:Ends->β->Hp->Prop}[fd:FdOk Fd]{u:TS}
theorem Ev.st {te:TE}{o:OE α}{m:Rs α}(he:Ev K Er S OO OO' σ te o m){H:Hp}{D:Ends}{Q:VK}(w:W OO H)(s:S.p (hid H OO)){f:α->Rs β}(P:PZ Er (Fd D) (hid H OO) (m.bind f))
  (hk:∀a v C H',W (C::OO') H'->S.p (hid H' (C::OO'))->o K (hid H' (C::OO')) v a C->PZ Er (Fd D) (hid H' (C::OO')) (f a)->Q v H'):te σ H Q:=by
 refine he H Q w s ?_
 cases m with
 |bad=>exact P
 |err x=>exact λH' s'=>P H' (Xu.trans s')
 |ok a=>exact λv C H' s' w' m' ho=>hk a v C H' w' (S.mono _ _ m' s) ho (PZ.tr (fd.tr D) m' P)
theorem EvB.st {te:TE}{r:Enc α}{m:Rs α}(he:EvB K Er S OO σ te r m){H:Hp}{D:Ends}{Q:VK}(w:W OO H)(s:S.p (hid H OO)){f:α->Rs β}(P:PZ Er (Fd D) (hid H OO) (m.bind f))
  (hk:∀a v H',Xo H H'->W OO H'->S.p (hid H' OO)->r K H' v a->PZ Er (Fd D) (hid H' OO) (f a)->Q v H'):te σ H Q:=by
 refine he H Q w s ?_
 cases m with
 |bad=>exact P
 |err x=>exact λH' s'=>P H' (Xu.trans s')
 |ok a=>exact λv H' s' hr=>hk a v H' s' (w.keep s') (S.mono _ _ (Xk s') s) hr (PZ.tr (fd.tr D) (Xk s') P)
theorem EvS.st {te:TE}{r:Enc α}{m:Rs α}(he:EvS K Er S OO σ te r m){H:Hp}{D:Ends}{Q:VK}(w:W OO H)(s:S.p (hid H OO)){f:α->Rs β}(P:PZ Er (Fd D) (hid H OO) (m.bind f))
  (hk:∀a v H',Xo H H'->W OO H'->S.p (hid H' OO)->r K (hid H' OO) v a->PZ Er (Fd D) (hid H' OO) (f a)->Q v H'):te σ H Q:=by
 refine he H Q w s ?_
 cases m with
 |bad=>exact P
 |err x=>exact λH' s'=>P H' (Xu.trans s')
 |ok a=>exact λv H' s' hr=>hk a v H' s' (w.keep s') (S.mono _ _ (Xk s') s) hr (PZ.tr (fd.tr D) (Xk s') P)
theorem EvT.st {tt:TT}{m:Rs Bool}(he:EvT Er S OO σ tt m){H:Hp}{D:Ends}{Q:Bool->Hp->Prop}(w:W OO H)(s:S.p (hid H OO)){f:Bool->Rs β}(P:PZ Er (Fd D) (hid H OO) (m.bind f))
  (hk:∀b H',W OO H'->S.p (hid H' OO)->PZ Er (Fd D) (hid H' OO) (f b)->Q b H'):tt σ H Q:=by
 refine he H Q w s ?_
 cases m with
 |bad=>exact P
 |err x=>exact λH' s'=>P H' (Xu.trans s')
 |ok a=>exact λH' s'=>hk a H' (w.keep s') (S.mono _ _ (Xk s') s) (PZ.tr (fd.tr D) (Xk s') P)
theorem set_set {OO:List (List Xn)}{k:Nat}{C:List Xn}:(OO.set k C).set k []=OO.set k []:=by simp
theorem LQ {C:List Xn}{H:Hp}{k:Nat}(w:W (C::OO) H)(hk:k<OO.length):W (OO.set k C) H/\Xo (hid H (C::OO)) (hid H (OO.set k C)):=by
 have h1:=XX (OO:=OO) (k:=k) (C:=OO[k]) (by simp[hk])
 have h2:=XX (OO:=OO.set k C) (k:=k) (C:=C) (by simp[hk])
 rw[set_set] at h2
 have h3:(OO.set k C).flatten.Perm (C++(OO.set k []).flatten):=by simpa using h2.symm
 have h4:(C::OO).flatten.Perm (C++(OO[k]++(OO.set k []).flatten)):=by
  rw[List.flatten_cons];exact(by simpa using h1.symm:OO.flatten.Perm (OO[k]++(OO.set k []).flatten)).append_left C
 have h5:(C++(OO.set k []).flatten).Sublist (C++(OO[k]++(OO.set k []).flatten)):=List.Sublist.append (List.Sublist.refl _) (List.sublist_append_right _ _)
 have w1:W [C++(OO[k]++(OO.set k []).flatten)] H:=w.of (by simpa using h4.symm)
 have w2:W [C++(OO.set k []).flatten] H:=w1.sub (by simpa using h5)
 refine⟨w2.of (by simpa using h3),Uv (Xo.refl _) λb hb=>?_⟩
 obtain⟨o,ho⟩:=Fy hb
 exact VJ (h4.mem_iff.mpr (h5.mem (h3.mem_iff.mp ho)))
theorem XZ {te:TE}{o:OE α}[MonoO o]{m:Rs α}{f:α->Rs β}(i k:Nat)(he:Ev K Er S OO OO' σ te o m)(hk:k<OO'.length)(hr:∀a v C,Sv Er (S.addO K o v a C) (OO'.set k C) (σ.set i (some v)) u Fd (f a)):Sv Er S OO σ (Q9 (Ed te (Ql i)) u) Fd (m.bind f):=λH D w s P=>
 he.st w s P λa v C H' w' s' ho P'=>by
  obtain⟨w2,h2⟩:=LQ w' hk
  exact hr a v C H' D w2 ⟨S.mono _ _ h2 s',MonoO.mono h2 ho⟩ (PZ.tr (fd.tr D) h2 P')
theorem XI {te:TE}{r:Enc α}[MonoE r]{m:Rs α}{f:α->Rs β}(i:Nat)(he:EvS K Er S OO σ te r m)(hr:∀a v,Sv Er (S.add K r v a) OO (σ.set i (some v)) u Fd (f a)):Sv Er S OO σ (Q9 (Ed te (Ql i)) u) Fd (m.bind f):=λH D w s P=>
 he.st w s P λa v H' s1 w' s' ho P'=>hr a v H' D w' ⟨s',ho⟩ P'
theorem XC {te:TE}{o:OE ρ}{m:Rs ρ}(he:Ev K Er S OO OO' σ te o m):Sv Er S OO σ (Q9 (MJ te) u) (FTd K o) m:=λH D w s P=>
 he H _ w s (by
  cases m with
  |bad=>exact P
  |err x=>exact λH' s'=>P H' (Xu.trans s')
  |ok a=>exact λv C H' s' w' m' ho=>P v C OO' H' w' m' ho)
theorem Vy {J:Jn γ ι}{t:TS}{o:OE ρ}{m:Rs γ}(h:Sv Er S OO σ t (FNd J) m):Sv Er S OO σ t (FCd K o J) (m.bind λr=>.ok (.nx r)):=λH D w s P=>h H D w s (by
 cases m with
 |bad=>exact P
 |err x=>exact P
 |ok a=>exact P)
theorem Xw {J:Jn γ ι}(x:ι)(g:γ)(h1:OO=J.oo x)(h2:σ=J.ss x)(h3:∀h,S.p h->(J.sc g x).p h):Sv Er S OO σ GZ (FNd J) (.ok g):=λH D w s P=>by
 subst h1 h2
 exact P x H w (Xo.refl _) (h3 _ s)
theorem Y5 {o:OE ρ}{c:TT}{t1:TS}{mc:Rs Bool}{m1 m2:Rs ρ}(hc:EvT Er S OO σ c mc)(h1:Sv Er S OO σ t1 (FTd K o) m1)(h2:Sv Er S OO σ u (FTd K o) m2):Sv Er S OO σ (Q9 (LW c t1 GZ) u) (FTd K o) (mc.bind λb=>if b=true then m1 else m2):=λH D w s P=>
 hc.st (Fd:=FTd K o) w s P λb H' w' s' P'=>by
  cases b with
  |true=>rw[if_pos rfl] at P'⊢;exact h1 H' _ w' s' P'
  |false=>exact h2 H' D w' s' P'
theorem QH {o:OE ρ}{J:Jn γ ι}{c:TT}{t1:TS}{mc:Rs Bool}{m1:Rs ρ}{m2:Rs (Ctl ρ γ)}(hc:EvT Er S OO σ c mc)(h1:Sv Er S OO σ t1 (FTd K o) m1)(h2:Sv Er S OO σ u (FCd K o J) m2):Sv Er S OO σ (Q9 (LW c t1 GZ) u) (FCd K o J) (mc.bind λb=>if b=true then m1.bind (λr=>.ok (.ret r)) else m2):=λH D w s P=>
 hc.st (Fd:=FCd K o J) w s P λb H' w' s' P'=>by
  cases b with
  |true=>
   rw[if_pos rfl] at P'⊢
   refine h1 H' _ w' s' ?_
   cases m1 with
   |bad=>exact P'
   |err x=>exact P'
   |ok a=>exact P'
  |false=>exact h2 H' D w' s' P'
theorem Zk {c:TT}{t1 t2:TS}{mc:Rs Bool}{m1 m2:Rs β}(hc:EvT Er S OO σ c mc)(h1:Sv Er S OO σ t1 Fd m1)(h2:Sv Er S OO σ t2 Fd m2):Sv Er S OO σ (LW c t1 t2) Fd (mc.bind λb=>if b=true then m1 else m2):=λH D w s P=>
 hc.st w s P λb H' w' s' P'=>by
  cases b with
  |true=>rw[if_pos rfl] at P'⊢;exact h1 H' _ w' s' P'
  |false=>exact h2 H' D w' s' P'
theorem Yx {J:Jn γ ι}{t:TS}{m:Rs γ}{f:γ->Rs β}(hb:Sv Er S OO σ t (FNd J) m)(hr:∀g x,Sv Er (J.sc g x) (J.oo x) (J.ss x) u Fd (f g)):Sv Er S OO σ (Q9 t u) Fd (m.bind f):=λH D w s P=>
 hb H _ w s (by
  cases m with
  |bad=>exact P
  |err x=>exact P
  |ok g=>exact λx H' w' m' q=>hr g x H' D w' q (PZ.tr (fd.tr D) m' P))
noncomputable def Vb (f:γ->Rs ρ):Ctl ρ γ->Rs ρ
 | .ret r=>.ok r
 | .nx g=>f g
noncomputable def Q0 {δ:Type}(f:γ->Rs (Ctl ρ δ)):Ctl ρ γ->Rs (Ctl ρ δ)
 | .ret r=>.ok (.ret r)
 | .nx g=>f g
theorem Sv.weak {S2:SC}{t:TS}{m:Rs β}(h:Sv Er S2 OO σ t Fd m)(hs:∀x,S.p x->S2.p x):Sv Er S OO σ t Fd m:=λH D w s P=>h H D w (hs _ s) P
theorem MN {C D C':List Xn}{H:Hp}{k:Nat}{p:Addr}{o:HO}(w:W (D::OO) H)(hk:OO[k]?=some C)(hp:p∈C.map (·.1))(hC:(C'.map (·.1)).Perm ((C++D).map (·.1)))(ht:∀c∈C',upd H p o c.1=some c.2)(hm:∀c∈C',Ih c.2=true):
  W (OO.set k C') (upd H p o)/\hid (upd H p o) (OO.set k C')=hid H (D::OO):=by
 have hlt:k<OO.length:=by
  rcases Nat.lt_or_ge k OO.length with h |h
  ·exact h
  ·rw[List.getElem?_eq_none h] at hk;cases hk
 have h1:=XX hk
 have h2:=XX (OO:=OO.set k C') (k:=k) (C:=C') (by simp[hlt])
 rw[set_set] at h2
 have h3:(OO.set k C').flatten.Perm (C'++(OO.set k []).flatten):=by simpa using h2.symm
 have h4:(D::OO).flatten.Perm (D++(C++(OO.set k []).flatten)):=by
  rw[List.flatten_cons];exact(by simpa using h1.symm:OO.flatten.Perm (C++(OO.set k []).flatten)).append_left D
 have hfl:(fl (OO.set k C')).Perm (fl (D::OO)):=by
  unfold fl
  refine(h3.map _).trans (List.Perm.trans ?_ (h4.map _).symm)
  simp only[List.map_append]
  refine(hC.append_right _).trans ?_
  simp only[List.map_append]
  rw[←List.append_assoc]
  exact List.perm_append_comm.append_right _
 have nd:=w.nd
 refine⟨⟨λc hc=>?_,hfl.nodup_iff.mpr nd,λc hc=>?_⟩,?_⟩
 ·rcases List.mem_append.mp (h3.mem_iff.mp hc) with hc |hc
  ·exact ht c hc
  ·have hne:c.1≠p:=λe=>by
    have nd2:((D++(C++(OO.set k []).flatten)).map (·.1)).Nodup:=(h4.map _).nodup_iff.mp nd
    simp only[List.map_append] at nd2
    have nd3:=(List.nodup_append.mp nd2).2.1
    exact(List.nodup_append.mp nd3).2.2 p hp c.1 (List.mem_map.mpr ⟨c,hc,rfl⟩) e.symm
   rw[Xp hne]
   exact w.tr c (h4.mem_iff.mpr (by simp[hc]))
 ·rcases List.mem_append.mp (h3.mem_iff.mp hc) with hc |hc
  ·exact hm c hc
  ·exact w.mu c (h4.mem_iff.mpr (by simp[hc]))
 ·funext b
  unfold hid
  by_cases hb:b∈fl (D::OO)
  ·rw[if_pos hb,if_pos (hfl.mem_iff.mpr hb)]
  ·rw[if_neg hb,if_neg λz=>hb (hfl.mem_iff.mp z)]
   refine Xp λe=>hb ?_
   rw[e]
   obtain⟨c,hc,rfl⟩:=List.mem_map.mp hp
   exact VJ (h4.mem_iff.mpr (by simp[hc]))
theorem Yt {Cs:List (List Xn)}{D:List Xn}:(Cs++[D]).flatten=Cs.flatten++D:=by simp
theorem Zh {ta:TE}{o:OE α}[MonoO o]{m:Rs α}{f:List α->Rs β}{v:V}{as:List α}{C:List Xn}(i k:Nat)(hσ:σ[i]?=some (some v))(hk:OO[k]?=some C)(hk':OO'[k]?=some C)(h:∀x,S.p x->oL o K x v as C)(he:Ev K Er S OO OO' σ ta o m)
  (hr:∀a C',Sv Er (S.addO K (oL o) v (as++[a]) C') (OO'.set k C') σ u Fd (f (as++[a]))):Sv Er S OO σ (Q9 (Kw (tBM K "list" QT (Ux i) (XT ta ZO))) u) Fd (m.bind λa=>chk (as.length<sizeLine) (f (as++[a]))):=λH D w s P=>by
 obtain⟨p,xs,Cs,e,q,c⟩:=h _ s
 subst c
 have hH:H p=some (.lst xs):=w.tr (p, .lst xs) (List.mem_flatten.mpr ⟨_,List.mem_of_getElem? hk,List.mem_cons_self⟩)
 refine⟨v,hσ,by rw[e];exact .inl ⟨rfl,_,SqL.of hH⟩,he.st w s P λa y D' H' w' s' ho P'=>?_⟩
 obtain⟨p',xs',Cs',e2,q2,c2⟩:=h _ s'
 rw[e] at e2;cases e2
 have c3:(p,HO.lst xs)=(p,HO.lst xs')/\Cs.flatten=Cs'.flatten:=by
  injection c2 with h1 h2
  exact⟨h1,h2⟩
 obtain⟨c3,c4⟩:=c3
 cases c3
 have hH':H' p=some (.lst xs):=w'.tr (p, .lst xs) (by rw[List.flatten_cons];exact List.mem_append_right _ (List.mem_flatten.mpr ⟨_,List.mem_of_getElem? hk',List.mem_cons_self⟩))
 cases hlt:decide (as.length<sizeLine) with
 |false=>rw[chk,if_neg (by simpa using hlt)] at P';exact P'.elim
 |true=>
  have hlt':as.length<sizeLine:=by simpa using hlt
  rw[Xj hlt'] at P'
  have wnd:=w'.nd
  have hcell:∀c∈(p,HO.lst (xs++[y]))::(Cs'++[D']).flatten,upd H' p (.lst (xs++[y])) c.1=some c.2:=λc hc=>by
   rcases List.mem_cons.mp hc with rfl |hc
   ·exact X2
   ·have hp1:=XX hk'
    have w3:W [D'++(((p,HO.lst xs)::Cs.flatten)++(OO'.set k []).flatten)] H':=w'.of (by
     simp only[List.flatten_cons,List.flatten_nil,List.append_nil]
     exact(by simpa using hp1:(((p,HO.lst xs)::Cs.flatten)++(OO'.set k []).flatten).Perm OO'.flatten).append_left D')
    have hin:c∈D'++(((p,HO.lst xs)::Cs.flatten)++(OO'.set k []).flatten):=by
     rw[Yt,List.mem_append] at hc
     rcases hc with hc |hc
     ·rw[←c4] at hc;simp[hc]
     ·simp[hc]
    have hne:c.1≠p:=λee=>by
     have nd3:=w3.nd
     rw[Yt,List.mem_append, ←c4] at hc
     simp only[fl,List.flatten_cons,List.flatten_nil,List.append_nil,List.map_append,List.cons_append,List.map_cons] at nd3
     rw[List.nodup_append] at nd3
     obtain⟨_,n2,n3⟩:=nd3
     rcases hc with hc |hc
     ·exact(List.nodup_cons.mp n2).1 (List.mem_append_left _ (List.mem_map.mpr ⟨c,hc,ee⟩))
     ·exact n3 c.1 (List.mem_map.mpr ⟨c,hc,rfl⟩) p List.mem_cons_self ee
    rw[Xp hne]
    exact w3.tr c (by simpa using hin)
  obtain⟨w4,h4⟩:=MN (C':=(p, .lst (xs++[y]))::(Cs'++[D']).flatten) w' hk' List.mem_cons_self (by simp[Yt,c4]) hcell (λc hc=>by
   rcases List.mem_cons.mp hc with rfl |hc
   ·rfl
   ·rw[Yt,List.mem_append, ←c4] at hc
    rcases hc with hc |hc
    ·exact w'.mu c (by rw[List.flatten_cons];exact List.mem_append_right _ (List.mem_flatten.mpr ⟨_,List.mem_of_getElem? hk',List.mem_cons_of_mem _ hc⟩))
    ·exact w'.mu c (by rw[List.flatten_cons];exact List.mem_append_left _ hc))
  refine⟨p,xs,y,e,rfl,hH',by rw[(P3.len q).1];exact hlt',?_⟩
  refine hr a _ _ D w4 ?_ (by rw[h4];exact P')
  rw[h4]
  exact⟨s',⟨p,xs++[y],Cs'++[D'],e,q2.snoc ho,rfl⟩⟩
end
section
variable {K:PySem.W.Frag}{Er:Exc->Hp->Prop}{S:SC}{OO OO' OO2:List (List Xn)}{σ:St}{α β γ ρ ι δ ε:Type}
variable {Fd:Ends->β->Hp->Prop}[fd:FdOk Fd]{u:TS}
noncomputable def forN:List α->γ->(γ->α->Rs γ)->Rs γ
 | [],g,_=>.ok g
 |a::as,g,f=>(f g a).bind λg'=>forN as g' f
noncomputable def forC:List α->γ->(γ->α->Rs (Ctl ρ γ))->Rs (Ctl ρ γ)
 | [],g,_=>.ok (.nx g)
 |a::as,g,f=>(f g a).bind λc=>match c with
  | .ret r=>.ok (.ret r)
  | .nx g'=>forC as g' f
theorem Yh {m:Rs α}{f:α->Rs β}{g:β->Rs γ}:(m.bind f).bind g=m.bind λa=>(f a).bind g:=by cases m<;> rfl
structure Tgt (K:PySem.W.Frag)(OO:List (List Xn))(g:TG)(r:Enc α)(κ:Type) where
 set:κ->St->St
 sc:α->κ->SC->SC
 ok:∀{H:Hp}{v:V}{a:α}{σ:St}{S:SC}{Q:St->Hp->Prop},r K (hid H OO) v a->S.p (hid H OO)->(∀x,(sc a x S).p (hid H OO)->Q (set x σ) H)->g v σ H Q
noncomputable def tg1 {r:Enc α}[MonoE r](i:Nat):Tgt K OO (Ql i) r V where
 set:=λv σ=>σ.set i (some v)
 sc:=λa v S=>S.add K r v a
 ok:=fun {H v a σ S Q} hr hs hq=>hq v ⟨hs,hr⟩
noncomputable def tg2 {r:Enc α}{q:Enc β}[MonoE r][MonoE q](i j:Nat):Tgt K OO (LJ K 2 (FY (Ql i) (FY (Ql j) Mh))) (rP2 r q) (V×V) where
 set:=λv σ=>(σ.set i (some v.1)).set j (some v.2)
 sc:=λa v S=>(S.add K r v.1 a.1).add K q v.2 a.2
 ok:=fun {H v a σ S Q} r9 hs hq=>by obtain⟨p,x,y,e,h,h1,h2⟩:=r9;exact⟨p,_,e,SqT.of (Xu _ _ h),rfl,x,[y],rfl,y,[],rfl,rfl,hq (x,y) ⟨⟨hs,h1⟩,h2⟩⟩
structure Walk (K:PySem.W.Frag)(Er:Exc->Hp->Prop)(S:SC)(OO:List (List Xn))(σ:St)(wi:TI)(r:Enc α)(m:Rs (List α)):Prop where
 ok:∀{H:Hp}{R:It->Hp->Prop},W OO H->S.p (hid H OO)->PZ Er (λas H=>∀ J H',Xo H H'->
   (∀(i:Nat) a,as[i]?=some a->∀OO2 H2,W OO2 H2->Xo (hid H' OO) (hid H2 OO2)->J.go i H2/\∀x H3,J.yld i H2 x H3->Xo H2 H3/\r K (hid H3 OO2) x a)->
   (∀OO2 H2,W OO2 H2->Xo (hid H' OO) (hid H2 OO2)->J.stop as.length H2)->R J H') H m->wi σ H R
theorem XF {te:TE}{r:Enc α}[z:MonoE r]{m:Rs (List α)}(he:EvS K Er S OO σ te (rV r) m):Walk K Er S OO σ (BS K te) r m:=⟨fun {H R} w s P=>by
 refine he H _ w s (P.imp λas _ h v H' s' ⟨p,xs,e,hp,pr⟩=>⟨p,e,⟨xs,SqL.of (Xu _ _ hp)⟩,h _ H' s' ?_ ?_⟩)
 ·intro i a ha OO2 H2 w2 m2
  obtain⟨x,hx,rx⟩:=Paired.getR pr ha
  have hq:SqL K H2 p xs:=SqL.of (Xu _ _ (m2 _ _ hp))
  refine⟨⟨xs,x,hq,hx⟩,λy H3 r9=>?_⟩
  obtain⟨e3,hy⟩:=r9
  subst e3
  refine⟨Xo.refl _,?_⟩
  have:=hy xs hq
  rw[hx] at this
  cases this
  exact z.mono m2 rx
 ·intro OO2 H2 w2 m2
  exact⟨xs,SqL.of (Xu _ _ (m2 _ _ hp)),by rw[Paired.len pr];exact Nat.le_refl _⟩⟩
noncomputable def Vh (as:List α):List (Int×α):=(List.range as.length).map (λ(i:Nat)=>(i:Int)) |>.zip as
theorem Dr {as:List α}{i:Nat}{p:Int×α}(h:(Vh as)[i]?=some p):p.1=(i:Int)/\as[i]?=some p.2:=by
 unfold Vh at h
 rw[List.getElem?_zip_eq_some] at h
 obtain⟨h1,h2⟩:=h
 rw[List.getElem?_map] at h1
 have hlt:i<as.length:=by
  rcases Nat.lt_or_ge i as.length with q |q
  ·exact q
  ·rw[List.getElem?_eq_none q] at h2;cases h2
 rw[List.getElem?_range hlt] at h1
 exact⟨(Option.some.inj h1).symm,h2⟩
theorem FW {as:List α}:(Vh as).length=as.length:=by simp[Vh]
theorem JL {te:TE}{r:Enc α}[z:MonoE r]{m:Rs (List α)}(he:EvS K Er S OO σ te (rV r) m):Walk K Er S OO σ (La K te) (rP2 Xb r) (m.bind λas=>.ok (Vh as)):=⟨fun {H R} w s P=>by
 refine he H _ w s ?_
 cases em:m with
 |bad=>rw[em] at P;exact P
 |err x=>rw[em] at P;exact P
 |ok as=>
  rw[em] at P
  intro v H' s' ⟨p,xs,e,hp,pr⟩
  refine⟨p,e,⟨xs,SqL.of (Xu _ _ hp)⟩,P _ H' s' ?_ ?_⟩
  ·intro i a ha OO2 H2 w2 m2
   obtain⟨ha1,ha2⟩:=Dr ha
   obtain⟨x,hx,rx⟩:=Paired.getR pr ha2
   have hq:SqL K H2 p xs:=SqL.of (Xu _ _ (m2 _ _ hp))
   refine⟨⟨xs,x,hq,hx⟩,λy H3 h3=>?_⟩
   obtain⟨b,x',rfl,hb,rfl,hy⟩:=h3
   have:=hy xs hq
   rw[hx] at this
   cases this
   refine⟨Yl hb _,⟨b, .int i,x,rfl,Jg w2 hb,by show V.int _=V.int _;rw[ha1],z.mono (m2.trans (Xk (Yl hb _))) rx⟩⟩
  ·intro OO2 H2 w2 m2
   exact⟨xs,SqL.of (Xu _ _ (m2 _ _ hp)),by rw[FW,Paired.len pr];exact Nat.le_refl _⟩⟩
theorem Fg {lo hi:Int}{i:Nat}{a:Int}(h:(Vo lo hi)[i]?=some a):a=lo+i/\i<(hi-lo).toNat:=by
 unfold Vo at h
 rw[List.getElem?_map] at h
 rcases Nat.lt_or_ge i (hi-lo).toNat with q |q
 ·rw[List.getElem?_range q] at h;exact⟨(Option.some.inj h).symm,q⟩
 ·rw[List.getElem?_eq_none (by simpa using q)] at h;cases h
theorem G9 {lo hi:Int}:(Vo lo hi).length=(hi-lo).toNat:=by simp[Vo]
noncomputable def CO (lo hi:Int):Rs (List Int):=chk (-(2^62)<=lo/\lo<2^62/\ -(2^62)<=hi/\hi<2^62) (.ok (Vo lo hi))
theorem Yy {te:TE}{m:Rs Int}(he:EvB K Er S OO σ te Xb m):Walk K Er S OO σ (IT (XT te ZO)) Xb (m.bind λn=>CO 0 n):=⟨fun {H R} w s P=>
 he.run w s (λas H H' s' h J H2 s2=>h J H2 (s'.trans s2)) P λn v H1 s1 w1 q1 r1 P1=>by
  obtain⟨c,hc,P2⟩:=P1.okOf λx=>Z7
  obtain⟨⟨_,_,h1,h2⟩,h3⟩:=Zj hc
  cases h3
  refine⟨n,by rw[show v= .int n from r1],h1,h2,P2 _ H1 (Xo.refl _) (λi a ha OO2 H2 w2 m2=>?_) λOO2 H2 w2 m2=>?_⟩
  ·obtain⟨e1,e2⟩:=Fg ha
   rw[Int.sub_zero] at e2
   refine⟨e2,λx H3 r9=>?_⟩
   obtain⟨e3,e4⟩:=r9
   subst e3
   exact⟨Xo.refl _,by rw[e4,e1];rfl⟩
  ·show n.toNat<=_
   rw[G9,Int.sub_zero];exact Nat.le_refl _⟩
theorem YN {wi:TI}{g:TG}{tb:TS}{r:Enc α}{κ:Type}{m:Rs (List α)}{body:γ->α->Rs γ}{f:γ->Rs β}(J:Jn γ ι)(T:∀OO,Tgt K OO g r κ)(x0:ι)(g0:γ)(he:Walk K Er S OO σ wi r m)(h1:OO=J.oo x0)(h2:σ=J.ss x0)(h3:∀h,S.p h->(J.sc g0 x0).p h)
  (hb:∀g x a v,Sv Er ((T (J.oo x)).sc a v (J.sc g x)) (J.oo x) ((T (J.oo x)).set v (J.ss x)) tb (FNd J) (body g a))
  (hr:∀g x,Sv Er (J.sc g x) (J.oo x) (J.ss x) u Fd (f g)):Sv Er S OO σ (Q9 (LA wi g tb) u) Fd (m.bind λas=>(forN as g0 body).bind f):=λH D w s P=>by
 refine he.ok w s ?_
 cases em:m with
 |bad=>rw[em] at P;exact P
 |err x=>rw[em] at P;exact λH' s'=>P H' (Xu.trans s')
 |ok as=>
  rw[em] at P
  have P:PZ Er (Fd D) (hid H OO) ((forN as g0 body).bind f):=P
  intro It H' s' hgo hstop
  refine⟨λi mm σ' H2=>mm=as.length-i/\i<=as.length/\∃x gg,σ'=J.ss x/\W (J.oo x) H2/\Xo (hid H' OO) (hid H2 (J.oo x))/\(J.sc gg x).p (hid H2 (J.oo x))/\PZ Er (Fd D) (hid H2 (J.oo x)) ((forN (as.drop i) gg body).bind f),⟨as.length,rfl,Nat.zero_le _,x0,g0,h2,?_,?_,?_,?_⟩,?_⟩
  ·rw[←h1];exact w.keep s'
  ·rw[←h1];exact Xo.refl _
  ·rw[←h1];exact h3 _ (S.mono _ _ (Xk s') s)
  ·rw[←h1,List.drop_zero];exact PZ.tr (fd.tr D) (Xk s') P
  ·rintro i mm σ' H2 ⟨rfl,hi,x,gg,rfl,w2,m2,sc2,P2⟩
   by_cases hlt:i<as.length
   ·right
    have ha:as[i]?=some as[i]:=by simp[hlt]
    obtain⟨h4,h5⟩:=hgo i _ ha (J.oo x) H2 w2 m2
    refine⟨h4,λσ3 H3=>∃ x gg,σ3=J.ss x/\W (J.oo x) H3/\Xo (hid H' OO) (hid H3 (J.oo x))/\(J.sc gg x).p (hid H3 (J.oo x))/\PZ Er (Fd D) (hid H3 (J.oo x)) ((forN (as.drop (i+1)) gg body).bind f),λσ3 H3 q=>⟨as.length-(i+1),Nat.sub_lt_sub_left hlt (Nat.lt_succ_self i),rfl,hlt,q⟩,λy H3 hy=>?_⟩
    obtain⟨s3,r3⟩:=h5 y H3 hy
    have w3:=w2.keep s3
    have m3:=Xk (OO:=J.oo x) s3
    refine(T (J.oo x)).ok r3 ((J.sc gg x).mono _ _ m3 sc2) λv hv=>hb gg x as[i] v H3 _ w3 hv ?_
    rw[List.drop_eq_getElem_cons hlt] at P2
    have P3:PZ Er (Fd D) (hid H2 (J.oo x)) ((body gg as[i]).bind λg'=>(forN (as.drop (i+1)) g' body).bind f):=by rw[←Yh];exact P2
    cases eb:body gg as[i] with
    |bad=>rw[eb] at P3;exact P3
    |err x=>rw[eb] at P3;exact λH4 s4=>P3 H4 (m3.trans s4)
    |ok g'=>
     rw[eb] at P3
     exact λx' H4 w4 m4 sc4=>⟨x',g',rfl,w4,m2.trans (m3.trans m4),sc4,PZ.tr (fd.tr D) (m3.trans m4) P3⟩
   ·left
    have e:i=as.length:=Nat.le_antisymm hi (Nat.not_lt.mp hlt)
    subst e
    refine⟨hstop (J.oo x) H2 w2 m2,hr gg x H2 D w2 sc2 ?_⟩
    rw[List.drop_length] at P2
    exact P2
theorem Uh {o:OE ρ}{wi:TI}{g:TG}{tb:TS}{r:Enc α}{κ:Type}{m:Rs (List α)}{body:γ->α->Rs (Ctl ρ γ)}{f:γ->Rs ρ}(J:Jn γ ι)(T:∀OO,Tgt K OO g r κ)(x0:ι)(g0:γ)(he:Walk K Er S OO σ wi r m)(h1:OO=J.oo x0)(h2:σ=J.ss x0)(h3:∀h,S.p h->(J.sc g0 x0).p h)
  (hb:∀g x a v,Sv Er ((T (J.oo x)).sc a v (J.sc g x)) (J.oo x) ((T (J.oo x)).set v (J.ss x)) tb (FCd K o J) (body g a))
  (hr:∀g x,Sv Er (J.sc g x) (J.oo x) (J.ss x) u (FTd K o) (f g)):Sv Er S OO σ (Q9 (LA wi g tb) u) (FTd K o) (m.bind λas=>(forC as g0 body).bind (Vb f)):=λH D w s P=>by
 refine he.ok w s ?_
 cases em:m with
 |bad=>rw[em] at P;exact P
 |err x=>rw[em] at P;exact λH' s'=>P H' (Xu.trans s')
 |ok as=>
  rw[em] at P
  have P:PZ Er (FTd K o D) (hid H OO) ((forC as g0 body).bind (Vb f)):=P
  intro It H' s' hgo hstop
  refine⟨λi mm σ' H2=>mm=as.length-i/\i<=as.length/\∃x gg,σ'=J.ss x/\W (J.oo x) H2/\Xo (hid H' OO) (hid H2 (J.oo x))/\(J.sc gg x).p (hid H2 (J.oo x))/\PZ Er (FTd K o D) (hid H2 (J.oo x)) ((forC (as.drop i) gg body).bind (Vb f)),⟨as.length,rfl,Nat.zero_le _,x0,g0,h2,?_,?_,?_,?_⟩,?_⟩
  ·rw[←h1];exact w.keep s'
  ·rw[←h1];exact Xo.refl _
  ·rw[←h1];exact h3 _ (S.mono _ _ (Xk s') s)
  ·rw[←h1,List.drop_zero];exact PZ.tr (FdOk.tr D) (Xk s') P
  ·rintro i mm σ' H2 ⟨rfl,hi,x,gg,rfl,w2,m2,sc2,P2⟩
   by_cases hlt:i<as.length
   ·right
    have ha:as[i]?=some as[i]:=by simp[hlt]
    obtain⟨h4,h5⟩:=hgo i _ ha (J.oo x) H2 w2 m2
    refine⟨h4,λσ3 H3=>∃ x gg,σ3=J.ss x/\W (J.oo x) H3/\Xo (hid H' OO) (hid H3 (J.oo x))/\(J.sc gg x).p (hid H3 (J.oo x))/\PZ Er (FTd K o D) (hid H3 (J.oo x)) ((forC (as.drop (i+1)) gg body).bind (Vb f)),λσ3 H3 q=>⟨as.length-(i+1),Nat.sub_lt_sub_left hlt (Nat.lt_succ_self i),rfl,hlt,q⟩,λy H3 hy=>?_⟩
    obtain⟨s3,r3⟩:=h5 y H3 hy
    have w3:=w2.keep s3
    have m3:=Xk (OO:=J.oo x) s3
    refine(T (J.oo x)).ok r3 ((J.sc gg x).mono _ _ m3 sc2) λv hv=>hb gg x as[i] v H3 _ w3 hv ?_
    rw[List.drop_eq_getElem_cons hlt] at P2
    have P3:PZ Er (FTd K o D) (hid H2 (J.oo x)) ((body gg as[i]).bind λc=>(match c with
     | .ret r=>Rs.ok (Ctl.ret r)
     | .nx g'=>forC (as.drop (i+1)) g' body).bind (Vb f)):=by rw[←Yh];exact P2
    cases eb:body gg as[i] with
    |bad=>rw[eb] at P3;exact P3
    |err x=>rw[eb] at P3;exact λH4 s4=>P3 H4 (m3.trans s4)
    |ok c=>
     rw[eb] at P3
     cases c with
     |ret r=>exact FdOk.tr (Fd:=FTd K o) D r _ _ m3 P3
     |nx g'=>exact λx' H4 w4 m4 sc4=>⟨x',g',rfl,w4,m2.trans (m3.trans m4),sc4,PZ.tr (FdOk.tr D) (m3.trans m4) P3⟩
   ·left
    have e:i=as.length:=Nat.le_antisymm hi (Nat.not_lt.mp hlt)
    subst e
    refine⟨hstop (J.oo x) H2 w2 m2,hr gg x H2 D w2 sc2 ?_⟩
    rw[List.drop_length] at P2
    exact P2
theorem Gn {κ2:Type}{o:OE ρ}{J2:Jn δ κ2}{wi:TI}{g:TG}{tb:TS}{r:Enc α}{κ:Type}{m:Rs (List α)}{body:γ->α->Rs (Ctl ρ γ)}{f:γ->Rs (Ctl ρ δ)}(J:Jn γ ι)(T:∀OO,Tgt K OO g r κ)(x0:ι)(g0:γ)(he:Walk K Er S OO σ wi r m)(h1:OO=J.oo x0)(h2:σ=J.ss x0)(h3:∀h,S.p h->(J.sc g0 x0).p h)
  (hb:∀g x a v,Sv Er ((T (J.oo x)).sc a v (J.sc g x)) (J.oo x) ((T (J.oo x)).set v (J.ss x)) tb (FCd K o J) (body g a))
  (hr:∀g x,Sv Er (J.sc g x) (J.oo x) (J.ss x) u (FCd K o J2) (f g)):Sv Er S OO σ (Q9 (LA wi g tb) u) (FCd K o J2) (m.bind λas=>(forC as g0 body).bind (Q0 f)):=λH D w s P=>by
 refine he.ok w s ?_
 cases em:m with
 |bad=>rw[em] at P;exact P
 |err x=>rw[em] at P;exact λH' s'=>P H' (Xu.trans s')
 |ok as=>
  rw[em] at P
  have P:PZ Er (FCd K o J2 D) (hid H OO) ((forC as g0 body).bind (Q0 f)):=P
  intro It H' s' hgo hstop
  refine⟨λi mm σ' H2=>mm=as.length-i/\i<=as.length/\∃x gg,σ'=J.ss x/\W (J.oo x) H2/\Xo (hid H' OO) (hid H2 (J.oo x))/\(J.sc gg x).p (hid H2 (J.oo x))/\PZ Er (FCd K o J2 D) (hid H2 (J.oo x)) ((forC (as.drop i) gg body).bind (Q0 f)),⟨as.length,rfl,Nat.zero_le _,x0,g0,h2,?_,?_,?_,?_⟩,?_⟩
  ·rw[←h1];exact w.keep s'
  ·rw[←h1];exact Xo.refl _
  ·rw[←h1];exact h3 _ (S.mono _ _ (Xk s') s)
  ·rw[←h1,List.drop_zero];exact PZ.tr (FdOk.tr D) (Xk s') P
  ·rintro i mm σ' H2 ⟨rfl,hi,x,gg,rfl,w2,m2,sc2,P2⟩
   by_cases hlt:i<as.length
   ·right
    have ha:as[i]?=some as[i]:=by simp[hlt]
    obtain⟨h4,h5⟩:=hgo i _ ha (J.oo x) H2 w2 m2
    refine⟨h4,λσ3 H3=>∃ x gg,σ3=J.ss x/\W (J.oo x) H3/\Xo (hid H' OO) (hid H3 (J.oo x))/\(J.sc gg x).p (hid H3 (J.oo x))/\PZ Er (FCd K o J2 D) (hid H3 (J.oo x)) ((forC (as.drop (i+1)) gg body).bind (Q0 f)),λσ3 H3 q=>⟨as.length-(i+1),Nat.sub_lt_sub_left hlt (Nat.lt_succ_self i),rfl,hlt,q⟩,λy H3 hy=>?_⟩
    obtain⟨s3,r3⟩:=h5 y H3 hy
    have w3:=w2.keep s3
    have m3:=Xk (OO:=J.oo x) s3
    refine(T (J.oo x)).ok r3 ((J.sc gg x).mono _ _ m3 sc2) λv hv=>hb gg x as[i] v H3 _ w3 hv ?_
    rw[List.drop_eq_getElem_cons hlt] at P2
    have P3:PZ Er (FCd K o J2 D) (hid H2 (J.oo x)) ((body gg as[i]).bind λc=>(match c with
     | .ret r=>Rs.ok (Ctl.ret r)
     | .nx g'=>forC (as.drop (i+1)) g' body).bind (Q0 f)):=by rw[←Yh];exact P2
    cases eb:body gg as[i] with
    |bad=>rw[eb] at P3;exact P3
    |err x=>rw[eb] at P3;exact λH4 s4=>P3 H4 (m3.trans s4)
    |ok c=>
     rw[eb] at P3
     cases c with
     |ret r=>exact FdOk.tr (Fd:=FTd K o) D r _ _ m3 P3
     |nx g'=>exact λx' H4 w4 m4 sc4=>⟨x',g',rfl,w4,m2.trans (m3.trans m4),sc4,PZ.tr (FdOk.tr D) (m3.trans m4) P3⟩
   ·left
    have e:i=as.length:=Nat.le_antisymm hi (Nat.not_lt.mp hlt)
    subst e
    refine⟨hstop (J.oo x) H2 w2 m2,hr gg x H2 D w2 sc2 ?_⟩
    rw[List.drop_length] at P2
    exact P2
noncomputable def Jl:Nat->γ->(γ->Rs Bool)->(γ->Rs γ)->Rs γ
 |0,_,_,_=>.bad
 |n+1,g,c,f=>(c g).bind λb=>if b=true then(f g).bind λg'=>Jl n g' c f else .ok g
theorem BP {c:TT}{tb:TS}{mc:γ->Rs Bool}{body:γ->Rs γ}{f:γ->Rs β}(J:Jn γ ι)(n:Nat)(x0:ι)(g0:γ)(h1:OO=J.oo x0)(h2:σ=J.ss x0)(h3:∀h,S.p h->(J.sc g0 x0).p h)
  (hc:∀g x,EvT Er (J.sc g x) (J.oo x) (J.ss x) c (mc g))(hb:∀g x,Sv Er (J.sc g x) (J.oo x) (J.ss x) tb (FNd J) (body g))
  (hr:∀g x,Sv Er (J.sc g x) (J.oo x) (J.ss x) u Fd (f g)):Sv Er S OO σ (Q9 (B4 c tb) u) Fd ((Jl n g0 mc body).bind f):=λH D w s P=>by
 refine⟨λmm σ' H2=>∃ x gg,σ'=J.ss x/\W (J.oo x) H2/\(J.sc gg x).p (hid H2 (J.oo x))/\PZ Er (Fd D) (hid H2 (J.oo x)) ((Jl mm gg mc body).bind f),⟨n,x0,g0,h2,by rw[←h1];exact w,by rw[←h1];exact h3 _ s,by rw[←h1];exact P⟩,?_⟩
 rintro mm σ' H2 ⟨x,gg,rfl,w2,sc2,P2⟩
 cases mm with
 |zero=>exact P2.elim
 |succ mm=>
  have P3:PZ Er (Fd D) (hid H2 (J.oo x)) ((mc gg).bind λb=>(if b=true then(body gg).bind λg'=>Jl mm g' mc body else .ok gg).bind f):=by rw[←Yh];exact P2
  refine(hc gg x).st w2 sc2 P3 λb H3 w3 sc3 P4=>?_
  cases b with
  |false=>exact hr gg x H3 D w3 sc3 P4
  |true=>
   rw[if_pos rfl] at P4⊢
   refine⟨λσ3 H4=>∃ x gg,σ3=J.ss x/\W (J.oo x) H4/\(J.sc gg x).p (hid H4 (J.oo x))/\PZ Er (Fd D) (hid H4 (J.oo x)) ((Jl mm gg mc body).bind f),λσ3 H4 q=>⟨mm,Nat.lt_succ_self _,q⟩,hb gg x H3 _ w3 sc3 ?_⟩
   rw[Yh] at P4
   cases eb:body gg with
   |bad=>rw[eb] at P4;exact P4
   |err x=>rw[eb] at P4;exact P4
   |ok g'=>
    rw[eb] at P4
    exact λx' H5 w5 m5 sc5=>⟨x',g',rfl,w5,sc5,PZ.tr (fd.tr D) m5 P4⟩
noncomputable def Fm (as:List α)(f:α->Rs β):Rs (List β):=match as with
 | []=>.ok []
 |a::as=>(f a).bind λb=>(Fm as f).bind λbs=>.ok (b::bs)
noncomputable def GL (as:List α)(f:α->Rs β):Rs (List β):=chk (as.length<=sizeLine) (Fm as f)
noncomputable def Gi (as:List α)(c:α->Rs Bool)(f:α->Rs β):Rs (List β):=match as with
 | []=>.ok []
 |a::as=>(c a).bind λb=>if b=true then(f a).bind λb=>(Gi as c f).bind λbs=>.ok (b::bs) else Gi as c f
noncomputable def LU (as:List α)(c:α->Rs Bool)(f:α->Rs β):Rs (List β):=chk (as.length<=sizeLine) (Gi as c f)
theorem PZ.chk {F:β->Hp->Prop}{H:Hp}{c:Prop}[Decidable c]{m:Rs β}(P:PZ Er F H (chk c m)):c/\PZ Er F H m:=by
 unfold L2.chk at P;split at P
 ·exact⟨by assumption,P⟩
 ·exact P.elim
theorem IC {o:OE α}[z:MonoO o]{xs:List V}{as:List α}{Cs:List (List Xn)}{H H0:Hp}{Q:VK}(w:W (Cs.flatten::OO) H)(m0:Xo (hid H0 OO) (hid H (Cs.flatten::OO)))(s0:Xo H0 H)(pr:P3 (o K (hid H (Cs.flatten::OO))) xs as Cs)(P:FO K OO OO (oL o) Q as H0):∀p,H p=none->Q (.ref p) (upd H p (.lst xs)):=λp hp=>by
 have hn:=JH (OO:=Cs.flatten::OO) hp (o:=.lst xs)
 have wn:=w.new hp (o:=.lst xs) rfl
 have pe:(((p,HO.lst xs)::Cs.flatten)::OO).flatten.Perm ([(p,HO.lst xs)]::Cs.flatten::OO).flatten:=by simp
 refine P (.ref p) ((p, .lst xs)::Cs.flatten) _ (s0.trans (Yl hp _)) (wn.of pe) ?_ ?_
 ·rw[Yv pe];exact m0.trans hn
 ·rw[Yv pe]
  exact⟨p,xs,Cs,rfl,pr.imp λ_ _ _ h=>z.mono hn h,rfl⟩
theorem Qj {o:OE β}[z:MonoO o]{wi:TI}{g:TG}{te:TE}{r:Enc α}{κ:Type}{m:Rs (List α)}{f:α->Rs β}{n:Nat}{caps:List (Nat×Str)}(T:∀OO,Tgt K OO g r κ)(he:Walk K Er S OO σ wi r m)
  (hb:∀C a v,Ev K Er ((T (C::OO)).sc a v S) (C::OO) (C::OO) ((T (C::OO)).set v (QC n caps σ)) te o (f a)):Ev K Er S OO OO σ (CK n caps wi g Ut te) (oL o) (m.bind λas=>GL as f):=λH Q w s P=>by
 refine he.ok w s ?_
 cases em:m with
 |bad=>rw[em] at P;exact P
 |err x=>rw[em] at P;exact P
 |ok as=>
  rw[em] at P
  obtain⟨hsz,P⟩:=PZ.chk (show PZ Er _ H (chk (as.length<=sizeLine) (Fm as f)) from P)
  intro It H' s' hgo hstop
  -- what is left: the Y7 of the items, then all
  refine⟨λi mm ys H2=>mm=as.length-i/\i<=as.length/\∃bs Cs,Xo H H2/\W (Cs.flatten::OO) H2/\Xo (hid H' OO) (hid H2 (Cs.flatten::OO))/\P3 (o K (hid H2 (Cs.flatten::OO))) ys bs Cs/\bs.length=i/\PZ Er (FO K OO OO (oL o) Q) H ((Fm (as.drop i) f).bind λY7=>.ok (bs++Y7)),
   ⟨as.length,rfl,Nat.zero_le _,[],[],s',(w.keep s').nil,by show Xo _ (hid H' ([]::OO));rw[Y1];exact Xo.refl _, .nil,rfl,?_⟩,?_⟩
  ·rw[List.drop_zero]
   revert P
   cases Fm as f<;> exact λz=>z
  ·rintro i mm ys H2 ⟨rfl,hi,bs,Cs,s2,w2,m2,pr,hlen,P2⟩
   refine⟨by rw[pr.len.1,hlen];omega,?_⟩
   by_cases hlt:i<as.length
   ·right
    have ha:as[i]?=some as[i]:=by simp[hlt]
    obtain⟨h4,h5⟩:=hgo i _ ha (Cs.flatten::OO) H2 w2 m2
    refine⟨h4,λys' H3=>∃ bs Cs,Xo H H3/\W (Cs.flatten::OO) H3/\Xo (hid H' OO) (hid H3 (Cs.flatten::OO))/\P3 (o K (hid H3 (Cs.flatten::OO))) ys' bs Cs/\bs.length=i+1/\PZ Er (FO K OO OO (oL o) Q) H ((Fm (as.drop (i+1)) f).bind λY7=>.ok (bs++Y7)),λys' H3 q=>⟨as.length-(i+1),Nat.sub_lt_sub_left hlt (Nat.lt_succ_self i),rfl,hlt,q⟩,λy H3 hy=>?_⟩
    obtain⟨s3,r3⟩:=h5 y H3 hy
    have w3:=w2.keep s3
    have m3:=Xk (OO:=Cs.flatten::OO) s3
    have sS:S.p (hid H3 (Cs.flatten::OO)):=S.mono _ _ ((Xk s').trans (m2.trans m3)) s
    refine(T (Cs.flatten::OO)).ok r3 sS λv hv=>?_
    show Ut _ _ _
    refine Iy ?_
    rw[List.drop_eq_getElem_cons hlt] at P2
    have P3':PZ Er (FO K OO OO (oL o) Q) H ((f as[i]).bind λb=>(Fm (as.drop (i+1)) f).bind λY7=>.ok (bs++b::Y7)):=by
     have:((f as[i]).bind λb=>(Fm (as.drop (i+1)) f).bind λY7=>Rs.ok (bs++b::Y7))=(Fm (as[i]::as.drop (i+1)) f).bind λY7=>.ok (bs++Y7):=by
      show _=((f as[i]).bind λb=>(Fm (as.drop (i+1)) f).bind λbs=>Rs.ok (b::bs)).bind _
      rw[Yh];congr 1;funext b;rw[Yh];rfl
     rw[this];exact P2
    refine hb Cs.flatten as[i] v H3 _ w3 hv ?_
    cases eb:f as[i] with
    |bad=>rw[eb] at P3';exact P3'
    |err x=>rw[eb] at P3';exact λH4 s4=>P3' H4 (s2.trans (s3.trans s4))
    |ok b=>
     rw[eb] at P3'
     intro v' C' H4 s4 w4 m4 ho
     have pe:((Cs++[C']).flatten::OO).flatten.Perm (C'::Cs.flatten::OO).flatten:=by
      simp only[Yt,List.flatten_cons]
      rw[List.append_assoc, ←List.append_assoc, ←List.append_assoc]
      exact List.perm_append_comm.append_right _
     refine⟨bs++[b],Cs++[C'],s2.trans (s3.trans s4),w4.of pe,?_,?_,by simp[hlen],?_⟩
     ·rw[Yv pe];exact m2.trans (m3.trans m4)
     ·rw[Yv pe];exact P3.snoc (pr.imp λ_ _ _ h=>z.mono (m3.trans m4) h) ho
     ·have P4:PZ Er (FO K OO OO (oL o) Q) H ((Fm (as.drop (i+1)) f).bind λY7=> .ok (bs++b::Y7)):=P3'
      simpa using P4
   ·left
    have e:i=as.length:=Nat.le_antisymm hi (Nat.not_lt.mp hlt)
    subst e
    refine⟨hstop (Cs.flatten::OO) H2 w2 m2,?_⟩
    rw[List.drop_length] at P2
    have P3':FO K OO OO (oL o) Q (bs++[]) H:=P2
    rw[List.append_nil] at P3'
    exact IC (H0:=H) w2 ((Xk s').trans m2) s2 pr P3'
theorem Bx {o:OE β}[z:MonoO o]{wi:TI}{g:TG}{tt:TT}{te:TE}{r:Enc α}{κ:Type}{m:Rs (List α)}{c:α->Rs Bool}{f:α->Rs β}{n:Nat}{caps:List (Nat×Str)}(T:∀OO,Tgt K OO g r κ)(he:Walk K Er S OO σ wi r m)
  (hc:∀C a v,EvT Er ((T (C::OO)).sc a v S) (C::OO) ((T (C::OO)).set v (QC n caps σ)) tt (c a))
  (hb:∀C a v,Ev K Er ((T (C::OO)).sc a v S) (C::OO) (C::OO) ((T (C::OO)).set v (QC n caps σ)) te o (f a)):Ev K Er S OO OO σ (CK n caps wi g tt te) (oL o) (m.bind λas=>LU as c f):=λH Q w s P=>by
 refine he.ok w s ?_
 cases em:m with
 |bad=>rw[em] at P;exact P
 |err x=>rw[em] at P;exact P
 |ok as=>
  rw[em] at P
  obtain⟨hsz,P⟩:=PZ.chk (show PZ Er _ H (chk (as.length<=sizeLine) (Gi as c f)) from P)
  intro It H' s' hgo hstop
  refine⟨λi mm ys H2=>mm=as.length-i/\i<=as.length/\∃bs Cs,Xo H H2/\W (Cs.flatten::OO) H2/\Xo (hid H' OO) (hid H2 (Cs.flatten::OO))/\P3 (o K (hid H2 (Cs.flatten::OO))) ys bs Cs/\bs.length<=i/\PZ Er (FO K OO OO (oL o) Q) H ((Gi (as.drop i) c f).bind λY7=>.ok (bs++Y7)),
   ⟨as.length,rfl,Nat.zero_le _,[],[],s',(w.keep s').nil,by show Xo _ (hid H' ([]::OO));rw[Y1];exact Xo.refl _, .nil,Nat.zero_le _,?_⟩,?_⟩
  ·rw[List.drop_zero]
   revert P
   cases Gi as c f<;> exact λz=>z
  ·rintro i mm ys H2 ⟨rfl,hi,bs,Cs,s2,w2,m2,pr,hlen,P2⟩
   refine⟨by rw[pr.len.1];omega,?_⟩
   by_cases hlt:i<as.length
   ·right
    have ha:as[i]?=some as[i]:=by simp[hlt]
    obtain⟨h4,h5⟩:=hgo i _ ha (Cs.flatten::OO) H2 w2 m2
    refine⟨h4,λys' H3=>∃ bs Cs,Xo H H3/\W (Cs.flatten::OO) H3/\Xo (hid H' OO) (hid H3 (Cs.flatten::OO))/\P3 (o K (hid H3 (Cs.flatten::OO))) ys' bs Cs/\bs.length<=i+1/\PZ Er (FO K OO OO (oL o) Q) H ((Gi (as.drop (i+1)) c f).bind λY7=>.ok (bs++Y7)),λys' H3 q=>⟨as.length-(i+1),Nat.sub_lt_sub_left hlt (Nat.lt_succ_self i),rfl,hlt,q⟩,λy H3 hy=>?_⟩
    obtain⟨s3,r3⟩:=h5 y H3 hy
    have w3:=w2.keep s3
    have m3:=Xk (OO:=Cs.flatten::OO) s3
    have sS:S.p (hid H3 (Cs.flatten::OO)):=S.mono _ _ ((Xk s').trans (m2.trans m3)) s
    refine(T (Cs.flatten::OO)).ok r3 sS λv hv=>?_
    rw[List.drop_eq_getElem_cons hlt] at P2
    have P3':PZ Er (FO K OO OO (oL o) Q) H ((c as[i]).bind λb=>(if b=true then(f as[i]).bind λb=>(Gi (as.drop (i+1)) c f).bind λbs=>.ok (b::bs) else Gi (as.drop (i+1)) c f).bind λY7=>.ok (bs++Y7)):=by
     rw[←Yh];exact P2
    refine hc Cs.flatten as[i] v H3 _ w3 hv ?_
    cases ec:c as[i] with
    |bad=>rw[ec] at P3';exact P3'
    |err x=>rw[ec] at P3';exact λH4 s4=>P3' H4 (s2.trans (s3.trans s4))
    |ok b=>
     rw[ec] at P3'
     intro H4 s4
     have w4:=w3.keep s4
     have m4:=Xk (OO:=Cs.flatten::OO) s4
     cases b with
     |false=>exact⟨bs,Cs,s2.trans (s3.trans s4),w4,m2.trans (m3.trans m4),pr.imp λ_ _ _ h=>z.mono (m3.trans m4) h,Nat.le_succ_of_le hlen,P3'⟩
     |true=>
      rw[if_pos rfl]
      have P4:PZ Er (FO K OO OO (oL o) Q) H ((f as[i]).bind λb=>(Gi (as.drop (i+1)) c f).bind λY7=>.ok (bs++b::Y7)):=by
       have:((f as[i]).bind λb=>(Gi (as.drop (i+1)) c f).bind λY7=>Rs.ok (bs++b::Y7))=((f as[i]).bind λb=>(Gi (as.drop (i+1)) c f).bind λbs=>Rs.ok (b::bs)).bind λY7=>.ok (bs++Y7):=by
        rw[Yh];congr 1;funext b;rw[Yh];rfl
       rw[this];exact P3'
      refine hb Cs.flatten as[i] v H4 _ w4 (((T (Cs.flatten::OO)).sc as[i] v S).mono _ _ m4 hv) ?_
      cases eb:f as[i] with
      |bad=>rw[eb] at P4;exact P4
      |err x=>rw[eb] at P4;exact λH5 s5=>P4 H5 (s2.trans (s3.trans (s4.trans s5)))
      |ok b=>
       rw[eb] at P4
       intro v' C' H5 s5 w5 m5 ho
       have pe:((Cs++[C']).flatten::OO).flatten.Perm (C'::Cs.flatten::OO).flatten:=by
        simp only[Yt,List.flatten_cons]
        rw[List.append_assoc, ←List.append_assoc, ←List.append_assoc]
        exact List.perm_append_comm.append_right _
       refine⟨bs++[b],Cs++[C'],s2.trans (s3.trans (s4.trans s5)),w5.of pe,?_,?_,by simpa using hlen,?_⟩
       ·rw[Yv pe];exact m2.trans (m3.trans (m4.trans m5))
       ·rw[Yv pe];exact P3.snoc (pr.imp λ_ _ _ h=>z.mono (m3.trans (m4.trans m5)) h) ho
       ·have P5:PZ Er (FO K OO OO (oL o) Q) H ((Gi (as.drop (i+1)) c f).bind λY7=> .ok (bs++b::Y7)):=P4
        simpa using P5
   ·left
    have e:i=as.length:=Nat.le_antisymm hi (Nat.not_lt.mp hlt)
    subst e
    refine⟨hstop (Cs.flatten::OO) H2 w2 m2,?_⟩
    rw[List.drop_length] at P2
    have P3':FO K OO OO (oL o) Q (bs++[]) H:=P2
    rw[List.append_nil] at P3'
    exact IC (H0:=H) w2 ((Xk s').trans m2) s2 pr P3'
noncomputable def Vw (as:List α)(i:Int)(a:α):Rs (List α):=match ixN as.length i with
 |some j=>.ok (as.set j a)
 |none=>.bad
end
section
variable {K:PySem.W.Frag}{Er:Exc->Hp->Prop}{S:SC}{OO OO' OO2:List (List Xn)}{σ:St}{α β γ ρ ι δ ε:Type}
variable {Fd:Ends->β->Hp->Prop}[fd:FdOk Fd]{u:TS}
theorem Hn {C D C':List Xn}{H:Hp}{k:Nat}{p:Addr}{o:HO}(w:W (D::OO) H)(hk:OO[k]?=some C)(hp:p∈C.map (·.1))(hp':p∈C'.map (·.1))(hnd:(C'.map (·.1)).Nodup)(hin:∀b∈C'.map (·.1),b∈(C++D).map (·.1))(ht:∀c∈C',upd H p o c.1=some c.2)(hm:∀c∈C',Ih c.2=true):
  W (OO.set k C') (upd H p o)/\Xo (hid H (D::OO)) (hid (upd H p o) (OO.set k C')):=by
 have hlt:k<OO.length:=by
  rcases Nat.lt_or_ge k OO.length with h |h
  ·exact h
  ·rw[List.getElem?_eq_none h] at hk;cases hk
 have h1:=XX hk
 have h2:=XX (OO:=OO.set k C') (k:=k) (C:=C') (by simp[hlt])
 rw[set_set] at h2
 have h3:(OO.set k C').flatten.Perm (C'++(OO.set k []).flatten):=by simpa using h2.symm
 have h4:(D::OO).flatten.Perm ((C++D)++(OO.set k []).flatten):=by
  rw[List.flatten_cons]
  refine((by simpa using h1.symm:OO.flatten.Perm (C++(OO.set k []).flatten)).append_left D).trans ?_
  rw[←List.append_assoc]
  exact List.perm_append_comm.append_right _
 have nd2:(((C++D)++(OO.set k []).flatten).map (·.1)).Nodup:=(h4.map _).nodup_iff.mp w.nd
 rw[List.map_append] at nd2
 obtain⟨n1,n2,n3⟩:=List.nodup_append.mp nd2
 refine⟨⟨λc hc=>?_,?_,λc hc=>?_⟩,λb v q=>?_⟩
 ·rcases List.mem_append.mp (h3.mem_iff.mp hc) with hc |hc
  ·exact ht c hc
  ·have hne:c.1≠p:=λe=>n3 p (hin p hp') c.1 (List.mem_map.mpr ⟨c,hc,rfl⟩) e.symm
   rw[Xp hne]
   exact w.tr c (h4.mem_iff.mpr (by simp[hc]))
 ·refine((h3.map _).nodup_iff).mpr ?_
  rw[List.map_append]
  exact List.nodup_append.mpr ⟨hnd,n2,λa ha b hb=>n3 a (hin a ha) b hb⟩
 ·rcases List.mem_append.mp (h3.mem_iff.mp hc) with hc |hc
  ·exact hm c hc
  ·exact w.mu c (h4.mem_iff.mpr (by simp[hc]))
 ·obtain⟨q1,q2⟩:=X6 q
  have hbp:b≠p:=λe=>q2 (by
   rw[e]
   obtain⟨c,hc,rfl⟩:=List.mem_map.mp hp
   exact VJ (h4.mem_iff.mpr (by simp[hc])))
  refine ZA (by rw[Xp hbp];exact q1) λz=>q2 ?_
  obtain⟨o',ho'⟩:=Fy z
  rcases List.mem_append.mp (h3.mem_iff.mp ho') with hc |hc
  ·obtain⟨c,hc2,e⟩:=List.mem_map.mp (hin b (List.mem_map.mpr ⟨_,hc,rfl⟩))
   rw[←e]
   exact VJ (h4.mem_iff.mpr (List.mem_append_left _ hc2))
  ·exact VJ (c:=(b,o')) (h4.mem_iff.mpr (by simp[hc]))
theorem LO {D:List Xn}{Cs Cs':List (List Xn)}{H:Hp}{k:Nat}{p:Addr}{xs xs':List V}(w:W (D::OO) H)(hk:OO[k]?=some ((p, .lst xs)::Cs.flatten))(hin:∀c∈Cs'.flatten,c∈Cs.flatten++D)(hnd:(Cs'.flatten.map (·.1)).Nodup):
  W (OO.set k ((p, .lst xs')::Cs'.flatten)) (upd H p (.lst xs'))/\Xo (hid H (D::OO)) (hid (upd H p (.lst xs')) (OO.set k ((p, .lst xs')::Cs'.flatten))):=by
 have h1:=XX hk
 have w3:W [((p,HO.lst xs)::(Cs.flatten++D))++(OO.set k []).flatten] H:=w.of (by
  simp only[List.flatten_cons,List.flatten_nil,List.append_nil]
  refine List.Perm.trans ?_ ((by simpa using h1:(((p,HO.lst xs)::Cs.flatten)++(OO.set k []).flatten).Perm OO.flatten).append_left D)
  rw[←List.append_assoc]
  refine List.Perm.append_right _ ?_
  exact(List.perm_append_comm (l₁:=(p,HO.lst xs)::Cs.flatten) (l₂:=D)))
 have nd:=w3.nd
 simp only[fl,List.flatten_cons,List.flatten_nil,List.append_nil,List.map_append,List.cons_append,List.map_cons] at nd
 have hne:∀c∈Cs'.flatten,c.1≠p:=λc hc e=>by
  refine(List.nodup_cons.mp nd).1 ?_
  rw[←e]
  refine List.mem_append_left _ ?_
  rw[←List.map_append]
  exact List.mem_map.mpr ⟨c,hin c hc,rfl⟩
 refine Hn w hk List.mem_cons_self List.mem_cons_self ?_ ?_ ?_ ?_
 ·rw[List.map_cons,List.nodup_cons]
  refine⟨λz=>?_,hnd⟩
  obtain⟨c,hc,e⟩:=List.mem_map.mp z
  exact hne c hc e
 ·intro b hb
  rcases List.mem_cons.mp hb with rfl |hb
  ·exact List.mem_cons_self
  ·obtain⟨c,hc,rfl⟩:=List.mem_map.mp hb
   rw[List.cons_append,List.map_cons]
   exact List.mem_cons_of_mem _ (List.mem_map.mpr ⟨c,hin c hc,rfl⟩)
 ·intro c hc
  rcases List.mem_cons.mp hc with rfl |hc
  ·exact X2
  ·rw[Xp (hne c hc)]
   exact w3.tr c (by
    rw[List.flatten_cons,List.flatten_nil,List.append_nil]
    exact List.mem_append_left _ (List.mem_cons_of_mem _ (hin c hc)))
 ·intro c hc
  rcases List.mem_cons.mp hc with rfl |hc
  ·rfl
  ·exact w3.mu c (by
    rw[List.flatten_cons,List.flatten_nil,List.append_nil]
    exact List.mem_append_left _ (List.mem_cons_of_mem _ (hin c hc)))
theorem KP {o:OE α}{h:Hp}{p:Addr}{xs:List V}{as:List α}{R:List Xn}(q:oL o K h (.ref p) as ((p, .lst xs)::R)):∃Cs,P3 (o K h) xs as Cs/\R=Cs.flatten:=by
 obtain⟨p',xs',Cs,e,q,c⟩:=q
 injection c with c1 c2
 injection c1 with c3 c4
 injection c4 with c5
 subst c5
 exact⟨Cs,q,c2⟩
theorem HB {as:List α}{i:Int}{a:α}{bs:List α}(h:Vw as i a= .ok bs):∃j,ixN as.length i=some j/\bs=as.set j a:=by
 unfold Vw at h;split at h
 ·cases h;exact⟨_,by assumption,rfl⟩
 ·cases h
theorem EO {as:List α}{i:Int}{a:α}{x:Exc}:Vw as i a≠ .err x:=by unfold Vw;split<;> exact λz=>nomatch z
theorem QM {l r m:List Xn}(h:(l++r).Perm m)(n:(m.map (·.1)).Nodup):(l.map (·.1)).Nodup:=by
 have:((l++r).map (·.1)).Nodup:=(h.map _).nodup_iff.mpr n
 rw[List.map_append] at this
 exact(List.nodup_append.mp this).1
theorem K5 {Cs:List (List Xn)}{j:Nat}{D:List Xn}(hj:j<Cs.length):((Cs.set j D).flatten++Cs[j]).Perm (Cs.flatten++D):=by
 have h1:=XX (OO:=Cs) (k:=j) (C:=Cs[j]) (by simp[hj])
 have h2:=XX (OO:=Cs.set j D) (k:=j) (C:=D) (by simp[hj])
 rw[set_set] at h2
 have h3:(Cs.set j D).flatten.Perm (D++(Cs.set j []).flatten):=by simpa using h2.symm
 have h4:Cs.flatten.Perm (Cs[j]++(Cs.set j []).flatten):=by simpa using h1.symm
 refine(h3.append_right _).trans (List.Perm.trans ?_ (h4.append_right _).symm)
 refine List.perm_append_comm.trans ((List.perm_append_comm.append_left _).trans ?_)
 rw[List.append_assoc]
theorem Qf {D:List Xn}{Cs:List (List Xn)}{H:Hp}{k:Nat}{p:Addr}{xs:List V}(w:W (D::OO) H)(hk:OO[k]?=some ((p, .lst xs)::Cs.flatten)):((Cs.flatten++D).map (·.1)).Nodup:=by
 have h1:=XX hk
 have w3:W [((p,HO.lst xs)::(Cs.flatten++D))++(OO.set k []).flatten] H:=w.of (by
  simp only[List.flatten_cons,List.flatten_nil,List.append_nil]
  refine List.Perm.trans ?_ ((by simpa using h1:(((p,HO.lst xs)::Cs.flatten)++(OO.set k []).flatten).Perm OO.flatten).append_left D)
  rw[←List.append_assoc]
  refine List.Perm.append_right _ ?_
  exact(List.perm_append_comm (l₁:=(p,HO.lst xs)::Cs.flatten) (l₂:=D)))
 have nd:=w3.nd
 simp only[fl,List.flatten_cons,List.flatten_nil,List.append_nil,List.cons_append,List.map_cons] at nd
 have n2:=(List.nodup_cons.mp nd).2
 rw[List.map_append] at n2
 exact(List.nodup_append.mp n2).1
theorem Bh {ta ti:TE}{o:OE α}[MonoO o]{m:Rs α}{mi:Rs Int}{f:List α->Rs β}{v:V}{as:List α}{C:List Xn}(i k:Nat)(hσ:σ[i]?=some (some v))(hk':OO'[k]?=some C)(h:∀x,S.p x->oL o K x v as C)(he:Ev K Er S OO OO' σ ta o m)
  (hi:∀D,EvB K Er S (D::OO') σ ti Xb mi)
  (hr:∀bs C',Sv Er (S.addO K (oL o) v bs C') (OO'.set k C') σ u Fd (f bs)):Sv Er S OO σ (Q9 (Ed ta (MB (Ux i) ti Lh)) u) Fd (m.bind λa=>mi.bind λj=>(Vw as j a).bind f):=λH D w s P=>
 he.st w s P λa y D' H' w' s' ho P'=>⟨v,hσ,(hi D').st w' s' P' λj z H2 s2 w2 q2 r2 P2=>by
  obtain⟨p,xs,Cs,e,q,c⟩:=h _ q2
  subst c
  have hH:H2 p=some (.lst xs):=w2.tr (p, .lst xs) (by rw[List.flatten_cons];exact List.mem_append_right _ (List.mem_flatten.mpr ⟨_,List.mem_of_getElem? hk',List.mem_cons_self⟩))
  cases es:Vw as j a with
  |bad=>rw[es] at P2;exact P2.elim
  |err x=>exact absurd es EO
  |ok bs=>
   rw[es] at P2
   obtain⟨jj,h1,rfl⟩:=HB es
   have hjl:jj<as.length:=by
    unfold ixN at h1
    split at h1
    ·split at h1
     ·cases h1;omega
     ·cases h1
    ·split at h1
     ·cases h1;omega
     ·cases h1
   have hjC:jj<Cs.length:=by rw[q.len.2];exact hjl
   have hp:=K5 (Cs:=Cs) (j:=jj) (D:=D') hjC
   obtain⟨w3,m3⟩:=LO (xs':=xs.set jj y) (Cs':=Cs.set jj D') w2 hk' (λc hc=>hp.mem_iff.mp (List.mem_append_left _ hc)) (QM hp (Qf w2 hk'))
   refine⟨p,xs,j,jj,e,r2,hH,by rw[q.len.1];exact h1,hr _ _ _ D w3 ⟨S.mono _ _ m3 q2,⟨p,_,_,e,P3.imp (λ_ _ _ z=>MonoO.mono m3 z) (P3.set (MonoO.mono (Xk s2) ho) jj q),rfl⟩⟩ (PZ.tr (fd.tr D) m3 P2)⟩⟩
theorem B6 {ta:TE}{o:OE α}[MonoO o]{m:Rs (List α)}{f:List α->Rs β}{v:V}{as:List α}{C:List Xn}(i k:Nat)(hσ:σ[i]?=some (some v))(hk:OO[k]?=some C)(hk':OO'[k]?=some C)(h:∀x,S.p x->oL o K x v as C)(he:Ev K Er S OO OO' σ ta (oL o) m)
  (hr:∀bs C',Sv Er (S.addO K (oL o) v (as++bs) C') (OO'.set k C') σ u Fd (f (as++bs))):Sv Er S OO σ (Q9 (Kw (tBM K "list" Fw (Ux i) (XT ta ZO))) u) Fd (m.bind λbs=>chk (as.length+bs.length<=sizeLine) (f (as++bs))):=λH D w s P=>by
 obtain⟨p,xs,Cs,e,q,c⟩:=h _ s
 subst c
 have hH:H p=some (.lst xs):=w.tr (p, .lst xs) (List.mem_flatten.mpr ⟨_,List.mem_of_getElem? hk,List.mem_cons_self⟩)
 refine⟨v,hσ,by rw[e];exact .inl ⟨rfl,_,SqL.of hH⟩,he.st w s P λbs y D' H' w' s' ho P'=>?_⟩
 obtain⟨hsz,P'⟩:=PZ.chk P'
 subst e
 obtain⟨Cs2,q2,c2⟩:=KP (h _ s')
 obtain⟨p',zs,Ds,e3,q3,c3⟩:=ho
 subst c3
 have hH':H' p=some (.lst xs):=w'.tr (p, .lst xs) (by rw[List.flatten_cons];exact List.mem_append_right _ (List.mem_flatten.mpr ⟨_,List.mem_of_getElem? hk',List.mem_cons_self⟩))
 have hH2:H' p'=some (.lst zs):=w'.tr (p', .lst zs) (by rw[List.flatten_cons];exact List.mem_append_left _ List.mem_cons_self)
 have cn:=Qf w' hk'
 obtain⟨w3,m3⟩:=LO (xs':=xs++zs) (Cs':=Cs2++Ds) w' hk' (λc hc=>by
   rw[List.flatten_append,List.mem_append] at hc
   rcases hc with hc |hc
   ·rw[c2];exact List.mem_append_left _ hc
   ·exact List.mem_append_right _ (List.mem_cons_of_mem _ hc)) (by
   rw[List.flatten_append, ←c2]
   refine List.Nodup.sublist (List.Sublist.map _ ?_) cn
   exact List.Sublist.append (List.Sublist.refl _) (List.sublist_cons_self _ _))
 refine⟨p,p',xs,zs,rfl,by rw[e3],hH',hH2,by rw[q2.len.1,q3.len.1];exact hsz,?_⟩
 exact hr bs _ _ D w3 ⟨S.mono _ _ m3 s',⟨p,_,_,rfl,P3.imp (λ_ _ _ z=>MonoO.mono m3 z) (q2.app q3),rfl⟩⟩ (PZ.tr (fd.tr D) m3 P')
noncomputable def Cl (as:List α)(i:Int):Rs (α×List α):=chk (-(2^63)<=i/\i<2^63) (match seqIndex? i as.length with
 |none=>.bad
 |some k=>match as[k]? with
  |none=>.bad
  |some a=>.ok (a,as.eraseIdx k))
theorem HN {as:List α}{i:Int}{p:α×List α}(h:Cl as i= .ok p):(-(2^63)<=i/\i<2^63)/\∃k,seqIndex? i as.length=some k/\as[k]?=some p.1/\p.2=as.eraseIdx k:=by
 obtain⟨h1,h2⟩:=Zj h
 refine⟨h1,?_⟩
 split at h2
 ·cases h2
 ·split at h2
  ·cases h2
  ·cases h2;exact⟨_,by assumption,by assumption,rfl⟩
theorem Hc {as:List α}{i:Int}{x:Exc}:Cl as i≠ .err x:=by
 unfold Cl chk;split
 ·split
  ·exact λz=>nomatch z
  ·split<;> exact λz=>nomatch z
 ·exact λz=>nomatch z
theorem Paired.erase' {F:α->γ->Prop}:∀{l:List α}{m:List γ} (n:Nat),Paired F l m->Paired F (l.eraseIdx n) (m.eraseIdx n)
 |_,_,_, .nil=>.nil
 |_,_,0, .cons _ t=>t
 |_,_,n+1, .cons r t=>.cons r (Paired.erase' n t)
theorem Dd {te ti:TE}{r:Enc α}[MonoE r]{mi:Rs Int}{f:α×List α->Rs β}{v:V}{as:List α}{C:List Xn}{D:Ends}{H:Hp}{Q:VK}(i k:Nat)(hσ:σ[i]?=some (some v))(hk:OO[k]?=some C)(h:∀x,S.p x->oL (oF r) K x v as C)(hi:EvB K Er S OO σ ti Xb mi)
  (w:W OO H)(s:S.p (hid H OO))(P:PZ Er (Fd D) (hid H OO) (mi.bind λj=>(Cl as j).bind f))
  (hr:∀a bs y C' H',W (OO.set k C') H'->((S.add K r y a).addO K (oL (oF r)) v bs C').p (hid H' (OO.set k C'))->PZ Er (Fd D) (hid H' (OO.set k C')) (f (a,bs))->Q y H'):tBM K "list" Gc (Ux i) (XT ti ZO) σ H Q:=by
 obtain⟨p,xs,Cs,e,q,c⟩:=h _ s
 subst c
 have hH:H p=some (.lst xs):=w.tr (p, .lst xs) (List.mem_flatten.mpr ⟨_,List.mem_of_getElem? hk,List.mem_cons_self⟩)
 refine⟨v,hσ,by rw[e];exact .inl ⟨rfl,_,SqL.of hH⟩,hi.st w s P λj z H' s1 w' s' ho P'=>?_⟩
 subst e
 obtain⟨Cs2,q2,c2⟩:=KP (h _ s')
 obtain⟨pr,hfl⟩:=P3.flat q2
 cases es:Cl as j with
 |bad=>rw[es] at P';exact P'.elim
 |err x=>exact absurd es Hc
 |ok pp=>
  rw[es] at P'
  obtain⟨a,bs⟩:=pp
  obtain⟨h1,kk,h2,h3,h4⟩:=HN es
  obtain⟨y,hy,ry⟩:=Paired.getR pr h3
  have w0:W ([]::OO) H':=w'.nil
  have hk0:OO[k]?=some ((p, .lst xs)::([]:List (List Xn)).flatten):=by rw[hk,c2,hfl];rfl
  obtain⟨w3,m3⟩:=LO (D:=[]) (Cs:=[]) (xs':=xs.eraseIdx kk) (Cs':=List.replicate bs.length []) w0 hk0 (λc hc=>by rw[Yd] at hc;cases hc) (by rw[Yd];exact List.nodup_nil)
  rw[Y1] at m3
  refine⟨p,xs,j,kk,y,rfl,by rw[show z= .int j from ho],s1 _ _ hH,h1.1,h1.2,by rw[Paired.len pr];exact h2,hy,?_⟩
  have pr2:Paired (r K (hid H' OO)) (xs.eraseIdx kk) bs:=by rw[show bs=as.eraseIdx kk from h4];exact Paired.erase' kk pr
  exact hr a bs y _ _ w3 ⟨⟨S.mono _ _ m3 s',MonoE.mono m3 ry⟩,⟨p,_,_,rfl,(P3.of (Paired.imp2 (λ_ _ z=>MonoE.mono m3 z) pr2)).imp λ_ _ _ z=>z,rfl⟩⟩ (PZ.tr (fd.tr D) m3 P')
theorem LE {ti:TE}{r:Enc α}[MonoE r]{mi:Rs Int}{f:α×List α->Rs β}{v:V}{as:List α}{C:List Xn}(x i k:Nat)(hσ:σ[i]?=some (some v))(hk:OO[k]?=some C)(h:∀x,S.p x->oL (oF r) K x v as C)(hi:EvB K Er S OO σ ti Xb mi)
  (hr:∀a bs y C',Sv Er ((S.add K r y a).addO K (oL (oF r)) v bs C') (OO.set k C') (σ.set x (some y)) u Fd (f (a,bs))):Sv Er S OO σ (Q9 (Ed (tBM K "list" Gc (Ux i) (XT ti ZO)) (Ql x)) u) Fd (mi.bind λj=>(Cl as j).bind f):=λH D w s P=>
 Dd (te:=ti) i k hσ hk h hi w s P λa bs y C' H' w' s' P'=>hr a bs y C' H' D w' s' P'
theorem Bi {ti:TE}{r:Enc α}[MonoE r]{mi:Rs Int}{f:List α->List α->Rs β}{v v2:V}{as zs:List α}{C C2:List Xn}(i k i2 k2:Nat)(hne:k2≠k)(hσ:σ[i]?=some (some v))(hk:OO[k]?=some C)(h:∀x,S.p x->oL (oF r) K x v as C)
  (hσ2:σ[i2]?=some (some v2))(hk2:OO[k2]?=some C2)(h2:∀x,S.p x->oL (oF r) K x v2 zs C2)(hi:EvB K Er S OO σ ti Xb mi)
  (hr:∀a bs C' C2',Sv Er ((S.addO K (oL (oF r)) v bs C').addO K (oL (oF r)) v2 (zs++[a]) C2') ((OO.set k C').set k2 C2') σ u Fd (f bs (zs++[a]))):
  Sv Er S OO σ (Q9 (Kw (tBM K "list" QT (Ux i2) (XT (tBM K "list" Gc (Ux i) (XT ti ZO)) ZO))) u) Fd (mi.bind λj=>(Cl as j).bind λp=>chk (zs.length<sizeLine) (f p.2 (zs++[p.1]))):=λH D w s P=>by
 obtain⟨p2,xs2,Cs2,e2,q2,c2⟩:=h2 _ s
 subst c2
 have hH2:H p2=some (.lst xs2):=w.tr (p2, .lst xs2) (List.mem_flatten.mpr ⟨_,List.mem_of_getElem? hk2,List.mem_cons_self⟩)
 refine⟨v2,hσ2,by rw[e2];exact .inl ⟨rfl,_,SqL.of hH2⟩,Dd (te:=ti) i k hσ hk h hi w s P λa bs y C' H' w' s' P'=>?_⟩
 obtain⟨hsz,P'⟩:=PZ.chk P'
 subst e2
 obtain⟨Cs3,q3,c3⟩:=KP (h2 _ s'.1.1)
 obtain⟨pr,hfl⟩:=P3.flat q3
 have hkk:(OO.set k C')[k2]?=some ((p2,HO.lst xs2)::([]:List (List Xn)).flatten):=by
  rw[List.getElem?_set_ne (λe=>hne e.symm),hk2,c3,hfl];rfl
 have hH3:H' p2=some (.lst xs2):=w'.tr (p2, .lst xs2) (List.mem_flatten.mpr ⟨_,List.mem_of_getElem? hkk,List.mem_cons_self⟩)
 obtain⟨w3,m3⟩:=LO (D:=[]) (Cs:=[]) (xs':=xs2++[y]) (Cs':=List.replicate (zs++[a]).length []) w'.nil hkk (λc hc=>by rw[Yd] at hc;cases hc) (by rw[Yd];exact List.nodup_nil)
 rw[Y1] at m3
 refine⟨p2,xs2,y,rfl,rfl,hH3,by rw[Paired.len pr];exact hsz,?_⟩
 refine hr a bs C' _ _ D w3 ⟨⟨S.mono _ _ m3 s'.1.1,(SC.oneO K (oL (oF r)) v bs C').mono _ _ m3 s'.2⟩,⟨p2,_,_,rfl,(P3.of (Paired.app (Paired.imp2 (λ_ _ z=>MonoE.mono m3 z) pr) (.cons (MonoE.mono m3 (show r K _ y a from s'.1.2)) .nil))).imp λ_ _ _ z=>z,rfl⟩⟩ (PZ.tr (fd.tr D) m3 P')
theorem HP {ta tb:TE}{ma mb:Rs Int}(ha:EvB K Er S OO σ ta Xb ma)(hb:EvB K Er S OO σ tb Xb mb):EvB K Er S OO σ (tCB (λxs H Q=>∃ i j:Int,xs=[.int i, .int j]/\Q (.int (if j > i then j else i)) H) (XT ta (XT tb ZO))) Xb (ma.bind λa=>mb.bind λb=>.ok (max a b)):=λH Q w s P=>
 ha.run w s FB.tr P λa x H1 s1 w1 q1 r1 P1=>hb.run w1 q1 FB.tr P1 λb y H2 s2 w2 q2 r2 P2=>⟨a,b,by rw[show x= .int a from r1,show y= .int b from r2],P2 _ H2 (Xo.refl _) (by show V.int _=V.int _;congr 1;omega)⟩
theorem HX {ta tb:TE}{ma mb:Rs Int}(ha:EvB K Er S OO σ ta Xb ma)(hb:EvB K Er S OO σ tb Xb mb):EvB K Er S OO σ (tCB (λxs H Q=>∃ i j:Int,xs=[.int i, .int j]/\Q (.int (if j<i then j else i)) H) (XT ta (XT tb ZO))) Xb (ma.bind λa=>mb.bind λb=>.ok (min a b)):=λH Q w s P=>
 ha.run w s FB.tr P λa x H1 s1 w1 q1 r1 P1=>hb.run w1 q1 FB.tr P1 λb y H2 s2 w2 q2 r2 P2=>⟨a,b,by rw[show x= .int a from r1,show y= .int b from r2],P2 _ H2 (Xo.refl _) (by show V.int _=V.int _;congr 1;omega)⟩
class TyE {α:Type}(r:Enc α)(n:outParam String):Prop where
 ty:∀{K:PySem.W.Frag}{H:Hp}{v:V}{a:α},r K H v a->TyOf K H v (.type n)
instance:TyE Xb "int":=⟨fun {K H v a} h=>by cases(show v= .int a from h);exact .int a⟩
instance:TyE Xl "bool":=⟨fun {K H v a} h=>by cases(show v= .bl a from h);exact .bl a⟩
instance:TyE Xt "str":=⟨fun {K H v a} h=>by cases(show v= .str a from h);exact .str a⟩
instance {r:Enc α}:TyE (rV r) "list":=⟨λr9=>by obtain⟨p,xs,e,q,_⟩:=r9;exact by subst e;exact .lst q⟩
instance {r:Enc α}:TyE (rPL r) "tuple":=⟨λr9=>by obtain⟨p,xs,e,q,_⟩:=r9;exact by subst e;exact .tup q⟩
instance {r:Enc α}{q:Enc γ}:TyE (rP2 r q) "tuple":=⟨λr9=>by obtain⟨p,x,y,e,q,_⟩:=r9;exact by subst e;exact .tup q⟩
instance {r:Enc α}{q:Enc γ}{t:Enc δ}:TyE (rP3 r q t) "tuple":=⟨λr9=>by obtain⟨p,x,y,z,e,q,_⟩:=r9;exact by subst e;exact .tup q⟩
theorem YE {te:TE}{r:Enc α}{n:String}[z:TyE r n]{m:Rs α}(t:String)(b:Bool)(hk:PySem.W.kitOne K (.type n) (.type t)=some b)(he:EvB K Er S OO σ te r m):
  EvB K Er S OO σ (tCB (λxs H Q=>∃ x n t b,xs=[x, .ty n]/\TyOf K H x t/\PySem.W.kitOne K t (.type n)=some b/\Q (.bl b) H) (XT te (XT (tC (.ty t)) ZO))) Xl (m.bind λ_=>.ok b):=λH Q w s P=>
 he.run w s FB.tr P λa x H1 s1 w1 q1 r1 P1=>⟨x,t, .type n,b,rfl,z.ty r1,hk,P1 _ H1 (Xo.refl _) rfl⟩
theorem EJ {ta:TE}{ma:Rs Int}(ha:EvB K Er S OO σ ta Xb ma):EvB K Er S OO σ (tCB (λxs H Q=>∃ i:Int,xs=[.int i]/\Q (.int (if i<0 then-i else i)) H) (XT ta ZO)) Xb (ma.bind λa=>.ok (a.natAbs:Int)):=λH Q w s P=>
 ha.run w s FB.tr P λa x H1 s1 w1 q1 r1 P1=>⟨a,by rw[show x= .int a from r1],P1 _ H1 (Xo.refl _) (by show V.int _=V.int _;congr 1;omega)⟩
end
section
variable {K:PySem.W.Frag}{Er:Exc->Hp->Prop}{S:SC}{OO OO' OO1 OO2:List (List Xn)}{σ:St}{α β γ ρ ι δ ε:Type}
variable {Fd:Ends->β->Hp->Prop}[fd:FdOk Fd]{u:TS}
theorem Lk (n:Nat)(H:Hp):W (List.replicate n []) H:=⟨λc hc=>(by rw[Yd] at hc;cases hc),(by unfold fl;rw[Yd];exact List.nodup_nil),λc hc=>(by rw[Yd] at hc;cases hc)⟩
theorem BA (n:Nat)(H:Hp):hid H (List.replicate n [])=H:=by funext b;unfold hid fl;rw[Yd];simp
theorem Ec {o:OE ρ}[z:MonoO o]{Q:VK}{b:ρ}{H:Hp}(q:FF K o Q b H):∀v C OO' H',W (C::OO') H'->Xo H (hid H' (C::OO'))->o K (hid H' (C::OO')) v b C->Q v H':=λv C OO' H' w m ho=>by
 have hs:Xo (hid H' (C::OO')) (hid H' [C]):=Uv (Xo.refl _) λb hb=>by
  rw[X9]
  refine List.mem_append_left _ ?_
  simpa[fl] using hb
 exact q v C H' (w.sub (by simp)) (m.trans hs) (z.mono hs ho)
theorem Y9 {o:OE ρ}[MonoO o]{t:TS}{m:Rs ρ}{Q:VK}{b:ρ}{H:Hp}{D:Ends}(n:Nat)(h:Sv (λ_ _=>False) S (List.replicate n []) σ t (FTd K o) m)(hs:S.p H)(hm:m= .ok b)(q:FF K o Q b H)(hD:D.rt=Q):t D σ H:=by
 refine h H D (Lk n H) (by rw[BA];exact hs) ?_
 subst hm
 rw[BA]
 intro v C OO' H' w mm ho
 rw[hD]
 exact Ec q v C OO' H' w mm ho
class InE {α:Type}[DecidableEq α](r:Enc α):Prop where
 fl:∀{K:PySem.W.Frag}{H:Hp}{x:V}{a:α},r K H x a->Vg x=true
 eq:∀{K:PySem.W.Frag}{H H':Hp}{x y:V}{a b:α},r K H x a->r K H' y b->eqV x y=decide (a=b)
instance:InE Xb:=⟨fun {K H x a} h=>by cases(show x= .int a from h);rfl,fun {K H H' x y a b} h h'=>by
 cases(show x= .int a from h);cases(show y= .int b from h');show(a==b)=_;rw[BJ]⟩
instance:InE Xt:=⟨fun {K H x a} h=>by cases(show x= .str a from h);rfl,fun {K H H' x y a b} h h'=>by
 cases(show x= .str a from h);cases(show y= .str b from h');show(a==b)=_
 rw[Bool.eq_iff_iff];simp⟩
theorem UO [DecidableEq α]{r:Enc α}[z:InE r]{H H':Hp}{x:V}{a:α}(hx:r K H x a):∀{xs:List V}{as:List α},Paired (r K H') xs as->xs.all Vg=true/\inV x xs=decide (a∈as)
 |_,_, .nil=>⟨rfl,by simp[inV]⟩
 |_,_, .cons h t=>by
  obtain⟨h1,h2⟩:=UO hx t
  refine⟨by rw[List.all_cons,h1,z.fl h];rfl,?_⟩
  unfold inV at h2⊢
  rw[List.any_cons,h2,z.eq h hx,Bool.eq_iff_iff,Bool.or_eq_true,decide_eq_true_eq,decide_eq_true_eq,decide_eq_true_eq,List.mem_cons]
  exact or_congr ⟨Eq.symm,Eq.symm⟩ Iff.rfl
theorem Gy [DecidableEq α]{ta tb:TE}{r:Enc α}[z:InE r]{ma:Rs α}{mb:Rs (List α)}(ha:EvB K Er S OO σ ta r ma)(hb:EvB K Er S OO σ tb (rPL r) mb):EvB K Er S OO σ (tOp (rIn K true) ta tb) Xl (ma.bind λa=>mb.bind λas=>.ok (!decide (a∈as))):=λH Q w s P=>
 ha.run w s FB.tr P λa x H1 s1 w1 q1 r1 P1=>hb.run w1 q1 FB.tr P1 λb y H2 s2 w2 q2 ⟨p,xs,e,q,pr⟩ P2=>by
  obtain⟨h1,h2⟩:=UO r1 pr
  exact⟨p,xs,e, .inr (SqT.of q),z.fl r1,h1,P2 _ H2 (Xo.refl _) (by rw[h2];rfl)⟩
theorem Cw {ta tb:TE}{r:Enc α}{m:Rs (Option α)}(ha:EvB K Er S OO σ ta (Q5 r) m):EvB K Er S OO σ (tOp (λx y H Q=>y= .non/\Q (.bl (decide (x= .non))) H) ta (tC .non)) Xl (m.bind λa=>.ok a.isNone):=λH Q w s P=>
 ha.run w s FB.tr P λa x H1 s1 w1 q1 r1 P1=>⟨rfl,P1 _ H1 (Xo.refl _) (by
  cases a with
  |none=>rw[show x= .non from r1];rfl
  |some a=>show V.bl _=V.bl _;rw[decide_eq_false r1.1];rfl)⟩
theorem BG {ta tb:TE}{r:Enc α}{m:Rs (Option α)}(ha:EvB K Er S OO σ ta (Q5 r) m):EvB K Er S OO σ (tOp (λx y H Q=>y= .non/\Q (.bl (!decide (x= .non))) H) ta (tC .non)) Xl (m.bind λa=>.ok a.isSome):=λH Q w s P=>
 ha.run w s FB.tr P λa x H1 s1 w1 q1 r1 P1=>⟨rfl,P1 _ H1 (Xo.refl _) (by
  cases a with
  |none=>rw[show x= .non from r1];rfl
  |some a=>show V.bl _=V.bl _;rw[decide_eq_false r1.1];rfl)⟩
theorem Dl {α:Type}[DecidableEq α]{r r':Enc α}{d:Nat}(E:EqOk r d)(h:∀{K:PySem.W.Frag}{H:Hp}{v:V}{a:α},r' K H v a->r K H v a)(m:MonoE r'):EqOk r' d where
 uniq:=λI h1 h2=>E.uniq I (h h1) (h h2)
 eq:=λI rx ry h1 h2 hu=>E.eq I rx ry (h h1) (h h2) hu
 rc:=λI rx ry h1 h2 hu=>E.rc I rx ry (h h1) (h h2) hu
 ne:=λI rx ry h1 h2 hu=>E.ne I rx ry (h h1) (h h2) hu
 keep:=λs q=>m.mono s q
theorem GT {α:Type}[DecidableEq α]{r:Enc α}{d:Nat}[m:MonoE r](E:EqOk r d):EqOk (rV r) (d+1):=Dl (EI E) (λr9=>by obtain⟨a,xs,e,q,p⟩:=r9;exact⟨a,xs,e,SqL.of q,p⟩) inferInstance
theorem Up {α β:Type}[DecidableEq α][DecidableEq β]{r:Enc α}{q:Enc β}{d:Nat}[m:MonoE r][n:MonoE q](E:EqOk r d)(F:EqOk q d):EqOk (rP2 r q) (d+1):=Dl (Hq E F) (λr9=>by obtain⟨a,x,y,e,q,p⟩:=r9;exact⟨a,x,y,e,SqT.of q,p⟩) inferInstance
end
section
variable {K:PySem.W.Frag}{Er:Exc->Hp->Prop}{S:SC}{OO OO' OO1 OO2:List (List Xn)}{σ:St}{α β γ ρ ι δ ε:Type}
variable {Fd:Ends->β->Hp->Prop}[fd:FdOk Fd]{u:TS}
theorem Qw {ta tb:TE}{o:OE α}{q:OE β}[z:MonoO o][y:MonoO q]{ma:Rs α}{mb:Rs β}(ha:Ev K Er S OO OO1 σ ta o ma)(hb:∀C,Ev K Er S (C::OO1) (C::OO2) σ tb q mb):Ev K Er S OO OO2 σ (LX (XT ta (XT tb ZO))) (oT2 o q) (ma.bind λa=>mb.bind λb=>.ok (a,b)):=λH Q w s P=>by
 refine ha H _ w s ?_
 cases em:ma with
 |bad=>rw[em] at P;exact P
 |err x=>rw[em] at P;exact P
 |ok a=>
  rw[em] at P
  intro v C H1 s1 w1 m1 ho
  refine hb C H1 _ w1 (S.mono _ _ m1 s) ?_
  have P1:PZ Er (FO K OO OO2 (oT2 o q) Q) H (mb.bind λb=>.ok (a,b)):=P
  cases en:mb with
  |bad=>rw[en] at P1;exact P1
  |err x=>rw[en] at P1;exact λH2 s2=>P1 H2 (s1.trans s2)
  |ok b=>
   rw[en] at P1
   have P1:FO K OO OO2 (oT2 o q) Q (a,b) H:=P1
   intro v2 C2 H2 s2 w2 m2 ho2
   refine⟨by show 2<=sizeLine;decide,λp hp=>?_⟩
   have pe:((C++C2)::OO2).flatten.Perm (C2::C::OO2).flatten:=by
    simp only[List.flatten_cons]
    rw[←List.append_assoc]
    exact List.perm_append_comm.append_right _
   have s3:Xo H2 (upd H2 p (.tup [v,v2])):=Yl hp _
   have w3:=(w2.keep s3).of pe
   have m3:Xo (hid H2 (C2::C::OO2)) (hid (upd H2 p (.tup [v,v2])) ((C++C2)::OO2)):=by rw[Yv pe];exact Xk s3
   refine P1 (.ref p) (C++C2) _ (s1.trans (s2.trans s3)) w3 (m1.trans (m2.trans m3)) ⟨p,v,v2,C,C2,rfl,?_,z.mono (m2.trans m3) ho,y.mono m3 ho2,rfl⟩
   rw[Yv pe]
   exact Jg w2 hp
theorem Ka:∀{l:List Xn}{a b:Xn},(l.map (·.1)).Nodup->a∈l->b∈l->a.1=b.1->a=b
 | [],_,_,_,h,_,_=>by cases h
 |c::l,a,b,n,ha,hb,e=>by
  rw[List.map_cons,List.nodup_cons] at n
  cases ha with
  |head=>cases hb with
   |head=>rfl
   |tail _ hb=>exact absurd (List.mem_map.mpr ⟨b,hb,e.symm⟩) n.1
  |tail _ ha=>cases hb with
   |head=>exact absurd (List.mem_map.mpr ⟨a,ha,e⟩) n.1
   |tail _ hb=>exact Ka n.2 ha hb e
theorem Jb {Cs:List (List Xn)}{k:Nat}{C:List Xn}(h:Cs[k]?=some C):∀c∈C,c∈Cs.flatten:=λc hc=>List.mem_flatten.mpr ⟨C,List.mem_of_getElem? h,hc⟩
theorem LI {as:List α}{i:Int}{a:α}(h:atR as i= .ok a):∃k,ixN as.length i=some k/\as[k]?=some a:=by
 have:=Dy h
 unfold atI at this
 cases e:ixN as.length i with
 |none=>rw[e] at this;cases this
 |some k=>rw[e] at this;exact⟨k,rfl,this⟩
theorem Dk {r:Enc α}[z:MonoE r]{v:V}{as:List (List α)}{row row':List α}{H:Hp}{p q:Addr}{xs ys ys':List V}{Cs:List (List Xn)}{k kk:Nat}(w:W OO H)(hk:OO[k]?=some ((p, .lst xs)::Cs.flatten))(hP:P3 (oL (oF r) K (hid H OO)) xs as Cs)(hrow:as[kk]?=some row)
  (hx:xs[kk]?=some (.ref q))(hq:H q=some (.lst ys))(hcs:Cs[kk]?=some [(q, .lst ys)])(pr:Paired (r K (hid H OO)) ys' row'):
  ∃C',W (OO.set k C') (upd H q (.lst ys'))/\Xo (hid H OO) (hid (upd H q (.lst ys')) (OO.set k C'))/\oL (oL (oF r)) K (hid (upd H q (.lst ys')) (OO.set k C')) (.ref p) (as.set kk row') C':=by
 have hkl:kk<Cs.length:=by
  rcases Nat.lt_or_ge kk Cs.length with h |h
  ·exact h
  ·rw[List.getElem?_eq_none h] at hcs;cases hcs
 have hin:∀c∈(p,HO.lst xs)::Cs.flatten,c∈OO.flatten:=λc hc=>List.mem_flatten.mpr ⟨_,List.mem_of_getElem? hk,hc⟩
 have w0:W ([]::OO) H:=w.nil
 have cn0:=Qf w0 hk
 rw[List.append_nil] at cn0
 have e0:Cs[kk]=[(q, .lst ys)]:=by
  rw[List.getElem?_eq_getElem hkl] at hcs;exact Option.some.inj hcs
 have hp:=K5 (Cs:=Cs) (j:=kk) (D:=[(q,HO.lst ys')]) hkl
 rw[e0] at hp
 have hpm:((Cs.set kk [(q,HO.lst ys')]).flatten.map (·.1)).Perm (Cs.flatten.map (·.1)):=by
  have:=hp.map (·.1)
  simp only[List.map_append,List.map_cons,List.map_nil] at this
  exact(List.perm_append_right_iff _).mp this
 have hpne:p∉Cs.flatten.map (·.1):=by
  have h1:=XX hk
  have:=(w.of (OO':=((p,HO.lst xs)::Cs.flatten)::OO.set k []) h1).nd
  rw[X9,List.map_cons,List.cons_append,List.nodup_cons] at this
  exact λz=>this.1 (List.mem_append_left _ z)
 have hqC:q∈Cs.flatten.map (·.1):=List.mem_map.mpr ⟨(q, .lst ys),Jb hcs _ (by simp),rfl⟩
 have hpq:p≠q:=λe=>hpne (e▸hqC)
 have hcells:∀c∈(p,HO.lst xs)::(Cs.set kk [(q,HO.lst ys')]).flatten,upd H q (.lst ys') c.1=some c.2/\Ih c.2=true:=λc hc=>by
  rcases List.mem_cons.mp hc with rfl |hc
  ·rw[Xp hpq];exact⟨w.tr _ (hin _ List.mem_cons_self),rfl⟩
  ·obtain⟨D,hD,hcD⟩:=List.mem_flatten.mp hc
   rcases List.mem_or_eq_of_mem_set hD with hD |hD
   ·by_cases hcq:c.1=q
    ·-- a cell at q in another place:then it is this one
     have hc2:c∈(Cs.set kk [(q,HO.lst ys')]).flatten:=hc
     have n1:((Cs.set kk [(q,HO.lst ys')]).flatten.map (·.1)).Nodup:=hpm.nodup_iff.mpr cn0
     have hm:(q,HO.lst ys')∈(Cs.set kk [(q,HO.lst ys')]).flatten:=List.mem_flatten.mpr ⟨[(q, .lst ys')],List.mem_set (by simpa using hkl) _,by simp⟩
     have e1:c=(q,HO.lst ys'):=by
      have:=Ka n1 hc2 hm hcq
      exact this
     rw[e1];exact⟨X2,rfl⟩
    ·rw[Xp hcq]
     have:c∈OO.flatten:=hin c (List.mem_cons_of_mem _ (List.mem_flatten.mpr ⟨D,hD,hcD⟩))
     exact⟨w.tr c this,w.mu c this⟩
   ·rw[hD] at hcD
    have e1:c=(q,HO.lst ys'):=by simpa using hcD
    rw[e1];exact⟨X2,rfl⟩
 have hq':q∈(Cs.set kk [(q,HO.lst ys')]).flatten.map (·.1):=hpm.mem_iff.mpr hqC
 obtain⟨w2,m2⟩:=Hn (C':=(p, .lst xs)::(Cs.set kk [(q,HO.lst ys')]).flatten) (p:=q) (o:=.lst ys') w0 hk (List.mem_cons_of_mem _ hqC) (List.mem_cons_of_mem _ hq') (by
   rw[List.map_cons,List.nodup_cons]
   exact⟨λz=>hpne (hpm.mem_iff.mp z),hpm.nodup_iff.mpr cn0⟩) (λb hb=>by
   rw[List.append_nil]
   rcases List.mem_cons.mp hb with rfl |hb
   ·exact List.mem_cons_self
   ·exact List.mem_cons_of_mem _ (hpm.mem_iff.mp hb)) (λc hc=>(hcells c hc).1) λc hc=>(hcells c hc).2
 rw[Y1] at m2
 have e3:xs.set kk (.ref q)=xs:=by
  apply List.ext_getElem?
  intro n
  by_cases hn:n=kk
  ·subst hn
   rw[hx,List.getElem?_set_self (by
    rcases Nat.lt_or_ge n xs.length with h |h
    ·exact h
    ·rw[List.getElem?_eq_none h] at hx;cases hx)]
  ·rw[List.getElem?_set_ne (λe=>hn e.symm)]
 refine⟨_,w2,m2,⟨p,xs,Cs.set kk [(q,HO.lst ys')],rfl,?_,rfl⟩⟩
 have:=P3.set (F:=oL (oF r) K (hid (upd H q (.lst ys')) (OO.set k ((p, .lst xs)::(Cs.set kk [(q,HO.lst ys')]).flatten)))) (a:=V.ref q) (b:=row') (c:=[(q,HO.lst ys')])
  ⟨q,ys',List.replicate row'.length [],rfl,(P3.of (Paired.imp2 (λ_ _ h=>z.mono m2 h) pr)).imp λ_ _ _ h=>h,by rw[Yd]⟩ kk (P3.imp (λ_ _ _ h=>MonoO.mono m2 h) hP)
 rw[e3] at this
 exact this
theorem DY {r:Enc α}{h:Hp}{as:List (List α)}{xs:List V}{Cs:List (List Xn)}{kk:Nat}{row:List α}(q:P3 (oL (oF r) K h) xs as Cs)(hrow:as[kk]?=some row):∃q0 ys,xs[kk]?=some (.ref q0)/\Cs[kk]?=some [(q0, .lst ys)]/\Paired (r K h) ys row:=by
 obtain⟨x,c,h1,h2,p,ys,Ds,e,h3,h4⟩:=q.get hrow
 obtain⟨h5,h6⟩:=P3.flat h3
 rw[h6] at h4
 exact⟨p,ys,by rw[h1,e],by rw[h2,h4],h5⟩
theorem VX {ta ti:TE}{r:Enc α}[z:MonoE r]{m:Rs α}{mi:Rs Int}{f:List (List α)->Rs β}{v:V}{as:List (List α)}{C:List Xn}(i k:Nat)(hσ:σ[i]?=some (some v))(hk:OO[k]?=some C)(h:∀x,S.p x->oL (oL (oF r)) K x v as C)(he:EvS K Er S OO σ ta r m)
  (hi:EvB K Er S OO σ ti Xb mi)
  (hr:∀bs C',Sv Er (S.addO K (oL (oL (oF r))) v bs C') (OO.set k C') σ u Fd (f bs)):
  Sv Er S OO σ (Q9 (Kw (tBM K "list" QT (tOp (IW K) (Ux i) ti) (XT ta ZO))) u) Fd (mi.bind λx=>(atR as x).bind λrow=>m.bind λa=>chk (row.length<sizeLine) ((Vw as x (row++[a])).bind f)):=λH D w s P=>
 ⟨v,hσ,hi.st w s P λx vx H2 s2 w2 q2 r2 P2=>by
  cases ea:atR as x with
  |bad=>rw[ea] at P2;exact P2.elim
  |err ex=>exact absurd ea Fq
  |ok row=>
   rw[ea] at P2
   obtain⟨kk,hkk,hrow⟩:=LI ea
   obtain⟨p,xs,Cs,e,q,c⟩:=h _ q2
   subst c e
   obtain⟨q0,ys,g1,g2,g3⟩:=DY q hrow
   have hin:∀c∈(p,HO.lst xs)::Cs.flatten,c∈OO.flatten:=λc hc=>List.mem_flatten.mpr ⟨_,List.mem_of_getElem? hk,hc⟩
   have hH:H2 p=some (.lst xs):=w2.tr (p, .lst xs) (hin _ List.mem_cons_self)
   have hq0:H2 q0=some (.lst ys):=w2.tr (q0, .lst ys) (hin _ (List.mem_cons_of_mem _ (Jb g2 _ (by simp))))
   refine⟨p,xs,x, .ref q0,rfl,r2,SqL.of hH,by unfold atI;rw[q.len.1,hkk];exact g1, .inl ⟨rfl,_,SqL.of hq0⟩,he.st w2 q2 (f:=λa=>chk (row.length<sizeLine) ((Vw as x (row++[a])).bind f)) P2 λa va H3 s3 w3 q3 r3 P3'=>?_⟩
   obtain⟨hsz,P3'⟩:=PZ.chk P3'
   have P4:PZ Er (Fd D) (hid H3 OO) (f (as.set kk (row++[a]))):=by
    have e5:Vw as x (row++[a])= .ok (as.set kk (row++[a])):=by unfold Vw;rw[hkk]
    rw[e5] at P3'
    exact P3'
   have m3:=Xk (OO:=OO) s3
   obtain⟨C',w4,m4,o4⟩:=Dk (ys':=ys++[va]) (row':=row++[a]) (v:=.ref p) w3 hk (P3.imp (λ_ _ _ h=>MonoO.mono m3 h) q) hrow g1 (s3 _ _ hq0) g2 (Paired.app (Paired.imp2 (λ_ _ h=>z.mono m3 h) g3) (.cons r3 .nil))
   exact⟨q0,ys,va,rfl,rfl,s3 _ _ hq0,by rw[Paired.len g3];exact hsz,hr _ C' _ D w4 ⟨S.mono _ _ m4 q3,o4⟩ (PZ.tr (fd.tr D) m4 P4)⟩⟩
theorem Ms {H H':Hp}{C D:List Xn}{k:Nat}(w:W OO H)(hk:OO[k]?=some C)(s:Xo H H')(w':W (D::OO.set k []) H')(m:Xo (hid H (OO.set k [])) (hid H' (D::OO.set k []))):
  W (D::OO) H'/\Xo (hid H OO) (hid H' (D::OO))/\Q8 (hid H' (D::OO.set k [])) (hid H' (D::OO)):=by
 have hp:=XX hk
 have wk:W (C::OO.set k []) H:=w.of hp
 have hC:∀c∈C,hid H (OO.set k []) c.1=some c.2:=λc hc=>ZA (wk.cell c hc) (by
  have:=wk.nd
  rw[X9] at this
  exact λhb=>(List.nodup_append.mp this).2.2 c.1 (List.mem_map.mpr ⟨c,hc,rfl⟩) c.1 hb rfl)
 have hC':∀c∈C,H' c.1=some c.2/\c.1∉fl (D::OO.set k []):=λc hc=>X6 (m _ _ (hC c hc))
 have w2:W (C::D::OO.set k []) H':=by
  refine⟨λc hc=>?_,?_,λc hc=>?_⟩
  ·rw[List.flatten_cons,List.mem_append] at hc
   exact hc.elim (λhc=>(hC' c hc).1) λhc=>w'.tr c hc
  ·rw[X9]
   refine List.nodup_append.mpr ⟨?_,w'.nd,λa ha b hb e=>?_⟩
   ·have:=wk.nd
    rw[X9] at this
    exact(List.nodup_append.mp this).1
   ·obtain⟨c,hc,rfl⟩:=List.mem_map.mp ha
    subst e
    exact(hC' c hc).2 hb
  ·rw[List.flatten_cons,List.mem_append] at hc
   exact hc.elim (λhc=>wk.mu c (by simp[hc])) λhc=>w'.mu c hc
 have pe:(D::OO).flatten.Perm (C::D::OO.set k []).flatten:=by
  simp only[List.flatten_cons]
  refine List.Perm.trans (List.Perm.append_left D (by simpa using hp.symm:OO.flatten.Perm (C++(OO.set k []).flatten))) ?_
  rw[←List.append_assoc, ←List.append_assoc]
  exact List.perm_append_comm.append_right _
 have w3:=w2.of pe
 refine⟨w3,λb u q=>?_,λb u q i=>w3.i b u (X6 q).1 i⟩
 obtain⟨q1,q2⟩:=X6 q
 have q3:hid H (OO.set k []) b=some u:=ZA q1 λz=>q2 ((JG hp b).mp (by rw[X9];simp[z]))
 obtain⟨q4,q5⟩:=X6 (m _ _ q3)
 refine ZA q4 λz=>?_
 have z2:=(JG pe b).mp z
 rw[X9,List.mem_append] at z2
 rcases z2 with z2 |z2
 ·exact q2 ((JG hp b).mp (by rw[X9];exact List.mem_append_left _ z2))
 ·exact q5 z2
theorem Mk {r1:Enc γ}{o1:OE γ}[z:FrzC o1 r1][MonoE r1]{H:Hp}{v:V}{a:γ}{C:List Xn}{k:Nat}(w:W OO H)(hk:OO[k]?=some C)(s:S.p (hid H OO))(h:∀x,S.p x->o1 K x v a C):
  W (OO.set k []) H/\(S.add K r1 v a).p (hid H (OO.set k [])):=by
 have hp:=XX hk
 have wk:W (C::OO.set k []) H:=w.of hp
 have hs:Xo (hid H OO) (hid H (OO.set k [])):=by
  rw[←Yv hp]
  exact Uv (Xo.refl _) λb hb=>by rw[X9];simp[hb]
 refine⟨wk.tail,S.mono _ _ hs s,z.frz (h _ s) hs λc hc=>ZA (wk.cell c hc) ?_⟩
 have:=wk.nd
 rw[X9] at this
 exact λhb=>(List.nodup_append.mp this).2.2 c.1 (List.mem_map.mpr ⟨c,hc,rfl⟩) c.1 hb rfl
theorem EV {te:TE}{o:OE α}[y:FlatO o]{r1:Enc γ}{o1:OE γ}[FrzC o1 r1][MonoE r1]{m:Rs α}{v:V}{a:γ}{C:List Xn}(k:Nat)(hk:OO[k]?=some C)(h:∀x,S.p x->o1 K x v a C)(he:Ev K Er (S.add K r1 v a) (OO.set k []) (OO.set k []) σ te o m):Ev K Er S OO OO σ te o m:=λH Q w s P=>by
 obtain⟨w1,s1⟩:=Mk (r1:=r1) w hk s h
 refine he H Q w1 s1 (P.imp λb _ hb v' D H' s' w' m' ho=>?_)
 obtain⟨w3,m3,i3⟩:=Ms w hk s' w' m'
 exact hb v' D H' s' w3 m3 (y.flat i3 ho)
theorem ZK (K:PySem.W.Frag)(T:String):PySem.W.kitOne K (.type T) (.type T)=some true:=by
 unfold PySem.W.kitOne
 rw[if_pos (beq_self_eq_true _)]
theorem UF (K:PySem.W.Frag):PySem.W.kitOne K (.type "int") (.type "bool")=some false:=by
 first
  |rfl
  |decide+kernel
  | (unfold PySem.W.kitOne PySem.W.kitCls;rfl)
end
section
variable {K:PySem.W.Frag}{Er:Exc->Hp->Prop}{S:SC}{OO OO' OO1 OO2:List (List Xn)}{σ:St}{α β γ ρ ι δ ε:Type}
variable {Fd:Ends->β->Hp->Prop}[fd:FdOk Fd]{u:TS}
noncomputable def MS:Option α->Rs α
 |some a=>.ok a
 |none=>.bad
theorem Br {r:Enc α}{K:PySem.W.Frag}{h:Hp}{v:V}{a:List α}{C:List Xn}(q:oF (rPL r) K h v a C):v≠ .non:=by
 obtain⟨_,p,x,e,_⟩:=q
 rw[e];exact λz=>nomatch z
end
section
variable {K:PySem.W.Frag}{Er:Exc->Hp->Prop}{S:SC}{OO OO' OO1 OO2:List (List Xn)}{σ:St}{α β γ ρ ι δ ε:Type}
variable {α1 α2 α3 α4 α5:Type}
noncomputable def rP4 (r1:Enc α1)(r2:Enc α2)(r3:Enc α3)(r4:Enc α4):Enc (α1×α2×α3×α4):=λK H v p=>∃ a x1 x2 x3 x4,v= .ref a/\H a=some (.tup [x1,x2,x3,x4])/\r1 K H x1 p.1/\r2 K H x2 p.2.1/\r3 K H x3 p.2.2.1/\r4 K H x4 p.2.2.2
instance {r1:Enc α1}{r2:Enc α2}{r3:Enc α3}{r4:Enc α4}[m1:MonoE r1][m2:MonoE r2][m3:MonoE r3][m4:MonoE r4]:MonoE (rP4 r1 r2 r3 r4):=⟨λs r9=>by obtain⟨a,x1,x2,x3,x4,e,h,p1,p2,p3,p4⟩:=r9;exact⟨a,x1,x2,x3,x4,e,s _ _ h,m1.mono s p1,m2.mono s p2,m3.mono s p3,m4.mono s p4⟩⟩
instance {r1:Enc α1}{r2:Enc α2}{r3:Enc α3}{r4:Enc α4}[m1:FlatE r1][m2:FlatE r2][m3:FlatE r3][m4:FlatE r4]:FlatE (rP4 r1 r2 r3 r4):=⟨λs r9=>by obtain⟨a,x1,x2,x3,x4,e,h,p1,p2,p3,p4⟩:=r9;exact⟨a,x1,x2,x3,x4,e,s _ _ h rfl,m1.flat s p1,m2.flat s p2,m3.flat s p3,m4.flat s p4⟩⟩
instance {r1:Enc α1}{r2:Enc α2}{r3:Enc α3}{r4:Enc α4}:TyE (rP4 r1 r2 r3 r4) "tuple":=⟨λr9=>by obtain⟨p,x1,x2,x3,x4,e,q,_⟩:=r9;exact by subst e;exact .tup q⟩
noncomputable def rP5 (r1:Enc α1)(r2:Enc α2)(r3:Enc α3)(r4:Enc α4)(r5:Enc α5):Enc (α1×α2×α3×α4×α5):=λK H v p=>∃ a x1 x2 x3 x4 x5,v= .ref a/\H a=some (.tup [x1,x2,x3,x4,x5])/\r1 K H x1 p.1/\r2 K H x2 p.2.1/\r3 K H x3 p.2.2.1/\r4 K H x4 p.2.2.2.1/\r5 K H x5 p.2.2.2.2
instance {r1:Enc α1}{r2:Enc α2}{r3:Enc α3}{r4:Enc α4}{r5:Enc α5}[m1:MonoE r1][m2:MonoE r2][m3:MonoE r3][m4:MonoE r4][m5:MonoE r5]:MonoE (rP5 r1 r2 r3 r4 r5):=⟨λs r9=>by obtain⟨a,x1,x2,x3,x4,x5,e,h,p1,p2,p3,p4,p5⟩:=r9;exact⟨a,x1,x2,x3,x4,x5,e,s _ _ h,m1.mono s p1,m2.mono s p2,m3.mono s p3,m4.mono s p4,m5.mono s p5⟩⟩
instance {r1:Enc α1}{r2:Enc α2}{r3:Enc α3}{r4:Enc α4}{r5:Enc α5}[m1:FlatE r1][m2:FlatE r2][m3:FlatE r3][m4:FlatE r4][m5:FlatE r5]:FlatE (rP5 r1 r2 r3 r4 r5):=⟨λs r9=>by obtain⟨a,x1,x2,x3,x4,x5,e,h,p1,p2,p3,p4,p5⟩:=r9;exact⟨a,x1,x2,x3,x4,x5,e,s _ _ h rfl,m1.flat s p1,m2.flat s p2,m3.flat s p3,m4.flat s p4,m5.flat s p5⟩⟩
instance {r1:Enc α1}{r2:Enc α2}{r3:Enc α3}{r4:Enc α4}{r5:Enc α5}:TyE (rP5 r1 r2 r3 r4 r5) "tuple":=⟨λr9=>by obtain⟨p,x1,x2,x3,x4,x5,e,q,_⟩:=r9;exact by subst e;exact .tup q⟩
theorem Cm {ta:TE}{m:Rs (Int×Int)}(ha:EvB K Er S OO σ ta (rP2 Xb Xb) m):EvB K Er S OO σ ta (rPL Xb) (m.bind λp=>.ok [p.1,p.2]):=λH Q w s P=>
 ha.run w s FB.tr P λa x H1 s1 w1 q1 r9 P1=>by obtain⟨p,x1,x2,e,q,h1,h2⟩:=r9;exact P1 _ H1 (Xo.refl _) ⟨p,_,e,q, .cons h1 (.cons h2 .nil)⟩
noncomputable def rDP {α:Type}(r:Enc α)(K:PySem.W.Frag)(H:Hp)(kv:Key×V)(kx:Int×α):Prop:=kv.1= .inl kx.1/\r K H kv.2 kx.2
noncomputable def rD {α:Type}(r:Enc α):Enc (List (Int×α)):=λK H v d=>∃ p kvs,v= .ref p/\H p=some (.dK kvs)/\Paired (rDP r K H) kvs d
noncomputable def oD {α:Type}(r:Enc α):OE (List (Int×α)):=λK h v d C=>∃ p kvs,v= .ref p/\Paired (rDP r K h) kvs d/\C=[(p, .dK kvs)]
instance {r:Enc α}[m:MonoE r]:MonoE (rD r):=⟨λs r9=>by obtain⟨p,kvs,e,q,pr⟩:=r9;exact⟨p,kvs,e,s _ _ q,Paired.imp2 (λ_ _ z=>⟨z.1,m.mono s z.2⟩) pr⟩⟩
instance {r:Enc α}[m:MonoE r]:MonoO (oD r):=⟨λs r9=>by obtain⟨p,kvs,e,pr,c⟩:=r9;exact⟨p,kvs,e,Paired.imp2 (λ_ _ z=>⟨z.1,m.mono s z.2⟩) pr,c⟩⟩
instance {r:Enc α}[m:FlatE r]:FlatO (oD r):=⟨λs r9=>by obtain⟨p,kvs,e,pr,c⟩:=r9;exact⟨p,kvs,e,Paired.imp2 (λ_ _ z=>⟨z.1,m.flat s z.2⟩) pr,c⟩⟩
instance {r:Enc α}[m:MonoE r]:FrzC (oD r) (rD r):=⟨λr9 s hc=>by obtain⟨p,kvs,e,pr,c⟩:=r9;exact⟨p,kvs,e,hc (p, .dK kvs) (by rw[c];simp),Paired.imp2 (λ_ _ z=>⟨z.1,m.mono s z.2⟩) pr⟩⟩
noncomputable def XS (d:List (Int×α))(k:Int):Option α:=(d.find? λkv=>decide (kv.1=k)).map (·.2)
noncomputable def Zg (d:List (Int×α))(k:Int)(v:α):List (Int×α):=if(d.any λkv=>decide (kv.1=k))=true then d.map (λkv=>if kv.1=k then(kv.1,v) else kv) else d++[(k,v)]
noncomputable def ZS (d:List (Int×α))(k:Int):Rs α:=MS (XS d k)
theorem ZF {r:Enc α}{H:Hp}{k:Int}:∀{kvs:List (Key×V)}{d:List (Int×α)},Paired (rDP r K H) kvs d->(∀a,XS d k=some a->∃v,Kq kvs (.inl k)=some v/\r K H v a)/\(Kq kvs (.inl k)).isSome=(XS d k).isSome
 |_,_, .nil=>⟨λa h=>(by cases h),rfl⟩
 |kv::kvs,kx::d, .cons h t=>by
  obtain⟨h1,h2⟩:=ZF (k:=k) t
  by_cases e:kx.1=k
  ·have e2:kv.1= .inl k:=by rw[h.1,e]
   rw[Ja e2]
   have e3:XS (kx::d) k=some kx.2:=by simp[XS,List.find?_cons,e]
   rw[e3]
   exact⟨λa ha=>by cases ha;exact⟨_,rfl,h.2⟩,rfl⟩
  ·have e2:¬kv.1= .inl k:=by rw[h.1];exact λz=>e (Sum.inl.inj z)
   rw[Ji e2]
   have e3:XS (kx::d) k=XS d k:=by simp[XS,List.find?_cons,e]
   rw[e3]
   exact⟨h1,h2⟩
theorem VE {r:Enc α}{H:Hp}{k:Int}:∀{kvs:List (Key×V)}{d:List (Int×α)},Paired (rDP r K H) kvs d->(kvs.any λkv=>decide (kv.1= .inl k))=d.any λkx=>decide (kx.1=k)
 |_,_, .nil=>rfl
 |kv::kvs,kx::d, .cons h t=>by
  rw[List.any_cons,List.any_cons,VE t,h.1]
  congr 1
  rw[Bool.eq_iff_iff];simp
theorem JJ {r:Enc α}{H:Hp}{k:Int}{v:V}{a:α}(hv:r K H v a){kvs:List (Key×V)}{d:List (Int×α)}(h:Paired (rDP r K H) kvs d):Paired (rDP r K H) (Jp kvs (.inl k) v) (Zg d k a):=by
 unfold Jp Zg
 rw[VE h]
 by_cases e:(d.any λkx=>decide (kx.1=k))=true
 ·rw[if_pos e,if_pos e]
  clear e
  induction h with
  |nil=>exact .nil
  | @cons kv kx l m h t ih=>
   refine .cons ?_ ih
   show rDP r K H (if kv.1= .inl k then(kv.1,v) else kv) (if kx.1=k then(kx.1,a) else kx)
   by_cases e:kx.1=k
   ·rw[if_pos (show kv.1= .inl k by rw[h.1,e]),if_pos e];exact⟨h.1,hv⟩
   ·rw[if_neg (show ¬kv.1= .inl k by rw[h.1];exact λz=>e (Sum.inl.inj z)),if_neg e];exact h
 ·rw[if_neg e,if_neg e]
  exact Paired.app h (.cons ⟨rfl,hv⟩ .nil)
theorem JX {r:Enc α}:Ev K Er S OO OO σ Eu (oD r) (.ok []):=λH Q w s P=>λp hp=>P (.ref p) [(p, .dK [])] _ (Yl hp _) (w.new hp rfl) (JH hp) ⟨p,[],rfl, .nil,rfl⟩
theorem Qr {td ty:TE}{r:Enc α}[z:MonoE r]{md:Rs (List (Int×α))}{mk:Rs Int}(hd:EvB K Er S OO σ td (rD r) md)(hk:EvB K Er S OO σ ty Xb mk):EvB K Er S OO σ (Lv td ty) r (md.bind λd=>mk.bind λk=>ZS d k):=λH Q w s P=>
 hd.run w s FB.tr P λd x H1 s1 w1 q1 ⟨p,kvs,e,q,pr⟩ P1=>hk.run w1 q1 FB.tr P1 λk y H2 s2 w2 q2 r2 P2=>by
  cases eg:XS d k with
  |none=>rw[ZS,eg] at P2;exact P2.elim
  |some a=>
   rw[ZS,eg] at P2
   obtain⟨v,hv,rv⟩:=(ZF (k:=k) pr).1 a eg
   exact⟨p,v,e, .inl ⟨kvs, .inl k, .inl (s2 _ _ q),r2,hv.symm⟩,P2 _ H2 (Xo.refl _) (z.mono s2 rv)⟩
theorem EW {td ty:TE}{r:Enc α}{md:Rs (List (Int×α))}{mk:Rs Int}(hk:EvB K Er S OO σ ty Xb mk)(hd:EvB K Er S OO σ td (rD r) md):EvB K Er S OO σ (Mu ty td) Xl (mk.bind λk=>md.bind λd=>.ok (XS d k).isSome):=λH Q w s P=>
 hk.run w s FB.tr P λk y H1 s1 w1 q1 r1 P1=>hd.run w1 q1 FB.tr P1 λd x H2 s2 w2 q2 r9 P2=>by obtain⟨p,kvs,e,q,pr⟩:=r9;exact⟨p,Kq kvs (.inl k),e, .inl ⟨kvs, .inl k, .inl q,r1,rfl⟩,P2 _ H2 (Xo.refl _) (by rw[(ZF (k:=k) pr).2];rfl)⟩
theorem Um {td ty:TE}{r:Enc α}{md:Rs (List (Int×α))}{mk:Rs Int}(hk:EvB K Er S OO σ ty Xb mk)(hd:EvB K Er S OO σ td (rD r) md):EvB K Er S OO σ (Fu ty td) Xl (mk.bind λk=>md.bind λd=>.ok (!(XS d k).isSome)):=λH Q w s P=>
 hk.run w s FB.tr P λk y H1 s1 w1 q1 r1 P1=>hd.run w1 q1 FB.tr P1 λd x H2 s2 w2 q2 r9 P2=>by obtain⟨p,kvs,e,q,pr⟩:=r9;exact⟨p,Kq kvs (.inl k),e, .inl ⟨kvs, .inl k, .inl q,r1,rfl⟩,P2 _ H2 (Xo.refl _) (by rw[(ZF (k:=k) pr).2];rfl)⟩
variable {Fd:Ends->β->Hp->Prop}[fd:FdOk Fd]{u:TS}
theorem QX {tv ty:TE}{r:Enc α}[z:MonoE r]{mv:Rs α}{mk:Rs Int}{f:List (Int×α)->Rs β}{v:V}{d:List (Int×α)}{C:List Xn}(i k:Nat)(hσ:σ[i]?=some (some v))(hk:OO[k]?=some C)(h:∀x,S.p x->oD r K x v d C)(hv:EvS K Er S OO σ tv r mv)(hy:EvB K Er S OO σ ty Xb mk)
  (hr:∀d' C',Sv Er (S.addO K (oD r) v d' C') (OO.set k C') σ u Fd (f d')):Sv Er S OO σ (Q9 (IP (Ux i) ty tv) u) Fd (mv.bind λa=>mk.bind λn=>chk (d.length<sizeLine) (f (Zg d n a))):=λH D w s P=>
 hv.st w s P λa va H1 s1 w1 q1 r1 P1=>⟨v,hσ,hy.st w1 q1 P1 λn vn H2 s2 w2 q2 r2 P2=>by
  obtain⟨hsz,P2⟩:=PZ.chk P2
  obtain⟨p,kvs,e,pr,c⟩:=h _ q2
  subst c e
  have hH:H2 p=some (.dK kvs):=w2.tr (p, .dK kvs) (List.mem_flatten.mpr ⟨_,List.mem_of_getElem? hk,by simp⟩)
  obtain⟨w3,m3⟩:=Hn (D:=[]) (C':=[(p, .dK (Jp kvs (.inl n) va))]) (p:=p) (o:=.dK (Jp kvs (.inl n) va)) w2.nil hk (by simp) (by simp) (by simp) (λb hb=>by simpa using hb) (λc hc=>by
   have:c=(p, .dK (Jp kvs (.inl n) va)):=by simpa using hc
   rw[this];exact X2) (λc hc=>by
   have:c=(p, .dK (Jp kvs (.inl n) va)):=by simpa using hc
   rw[this];rfl)
  rw[Y1] at m3
  refine⟨p,_,rfl, .inl ⟨kvs, .inl n,hH,r2,by rw[Paired.len pr];exact hsz,rfl⟩,?_⟩
  exact hr _ _ _ D w3 ⟨S.mono _ _ m3 q2,⟨p,_,rfl,JJ (z.mono ((Xk s2).trans m3) r1) (Paired.imp2 (λ_ _ h=>⟨h.1,z.mono m3 h.2⟩) pr),rfl⟩⟩ (PZ.tr (fd.tr D) m3 P2)⟩
end
theorem Ym.ex {P:Program}{w:World}{H:Hp}{h:Heap}{a:Addr}{o:HO}(x:Ym P w H h a o):∃u,h.get? a=some u:=by
 cases o with
 |lst xs=>obtain⟨_,_,_,_,e⟩:=x;exact⟨_,e⟩
 |tup xs=>obtain⟨_,_,_,p⟩:=x;obtain⟨o,e,_⟩:=p;exact⟨_,e⟩
 |dK kvs=>obtain⟨_,_,_,_,o,_,_,e,_⟩:=x;exact⟨_,e⟩
 |dT kvs=>obtain⟨_,_,_,_,o,_,_,e,_⟩:=x;exact⟨_,e⟩
 |set S n=>obtain⟨o,_,_,_,e,_⟩:=x;exact⟨_,e⟩
 |ins C dx fs=>obtain⟨_,_,_,e,_⟩:=x;exact⟨_,e⟩
 |own y=>exact x
 |xd fs=>obtain⟨_,⟨_,_,_,e,_⟩,_⟩:=x;exact⟨_,e⟩
 |rng lo hi=>obtain⟨_,_,_,e⟩:=x;exact⟨_,e⟩
 |frz ob u=>exact⟨_,x.1⟩
 |tbl ps=>exact⟨_,x⟩
 |met f y=>exact⟨_,x⟩
 |ext φ=>exact x.2.1
theorem HOk.un0 {P:Program}{w:World}{H:Hp}{h:Heap}{a:Addr}(x:HOk P w H h)(e:h.get? a=none):H a=none:=by
 cases q:H a with
 |none=>rfl
 |some u=>obtain⟨v,hv⟩:=(x a u q).ex;rw[e] at hv;cases hv
structure Fl (h0 h:Heap)(H:Hp)(a T:Addr)(cls:Value):Prop where
 na:h0.get? a=none
 nT:h0.get? T=none
 fa:H a=none
 fT:H T=none
 ne:T≠a
 obj:∃oe vs oT ts a0,h.get? a=some oe/\oe.cls=cls/\vs[0]?=some a0/\oe.data= .fields vs/\vs[1]?=some (.ref T)/\h.get? T=some oT/\oT.data= .fields ts/\ts[3]?=some Value.none
noncomputable def CP (h:Heap)(fs:List Addr)(a T:Addr):Heap:=CM h (λb=>if b∈fs∨b=a∨b=T then some (.own 0) else none)
theorem Z4 {h:Heap}{fs:List Addr}{a T b:Addr}{o:Obj}(e:h.get? b=some o)(n1:b∉fs)(n2:b≠a)(n3:b≠T):(CP h fs a T).get? b=some o:=
 GH e (if_neg λz=>z.elim n1 λz=>z.elim n2 n3)
theorem Ui {h:Heap}{fs:List Addr}{a T b:Addr}{o:Obj}(e:(CP h fs a T).get? b=some o):h.get? b=some o/\b∉fs/\b≠a/\b≠T:=by
 obtain⟨h1,h2⟩:=F7 e
 have h3:¬(b∈fs∨b=a∨b=T):=λz=>by
  have:=(if_pos z).symm.trans h2
  cases this
 exact⟨h1,λq=>h3 (.inl q),λq=>h3 (.inr (.inl q)),λq=>h3 (.inr (.inr q))⟩
theorem Zf {h:Heap}{fs:List Addr}{a T b:Addr}(n:b∈fs∨b=a∨b=T):(CP h fs a T).get? b=none:=by
 cases q:(CP h fs a T).get? b with
 |none=>rfl
 |some o=>
  obtain⟨_,h1,h2,h3⟩:=Ui q
  exact(n.elim h1 λz=>z.elim h2 h3).elim
theorem VR {h base B:Heap}:∀{l:List Env},h.FunFrames base l->(∀b∈frs l,B.get? b=none)->h.FunFrames B l
 | [],_,_=>trivial
 |env::r,⟨hk,⟨L,o,hf,hn,ho,hd⟩,hr⟩,n=>
  ⟨hk,⟨L,o,hf,n L (by unfold frs;rw[List.filterMap_cons,hf];exact List.mem_cons_self),ho,hd⟩,VR hr λb hb=>n b (by unfold frs;rw[List.filterMap_cons,hf];exact List.mem_cons_of_mem _ hb)⟩
section
variable {P:Program}{w:World}{h0 h h' base:Heap}{H:Hp}{a T:Addr}{cls a0:Value}{l:List Env}
theorem Fl.fly (x:Fl h0 h H a T cls)(hl:h.FunFrames base l):∃a0,Heap.FlyingW (CP h (frs l) a T) l a cls a0 h:=by
 obtain⟨oe,vs,oT,ts,a0,ha,hc,h0',hd,h1,hT,hdT,h3⟩:=x.obj
 exact⟨a0,λb o e=>(Ui e).1,Zf (.inr (.inl rfl)),VR hl λb hb=>Zf (.inl hb),oe,vs,T,oT,ts,ha,⟨hc,h0'⟩,hd,h1,Zf (.inr (.inr rfl)),x.ne,hT,hdT,h3⟩
theorem Un.traced (hl:h.FunFrames base l)(keep:∀b o,b∉frs l->b≠a->b≠T->h.get? b=some o->h'.get? b=some o)(up:h.UpToSlots h'):Un (frs l) [a,T] H H h h' where
 keep:=λb o e _ hb hx=>keep b o hb (λz=>hx (by simp[z])) (λz=>hx (by simp[z])) e
 slot:=λb o e _ hb _=>by
  obtain⟨_,o2,ho2,hd2⟩:=hl.mem hb
  rw[e] at ho2;cases ho2
  exact up b o e hd2
 free:=λb o e n _=>n
 there:=λb o e hx=>by
  by_cases hb:b∈frs l
  ·obtain⟨_,o2,ho2,hd2⟩:=hl.mem hb
   obtain⟨sl,q⟩:=up b o2 ho2 hd2
   exact⟨_,q⟩
  ·exact⟨o,keep b o hb (λz=>hx (by simp[z])) (λz=>hx (by simp[z])) e⟩
 tups:=λ_ _ q=>q
 frzs:=λ_ _ _ q=>q
 tbls:=λ_ ps q=>⟨#[],by simpa using q⟩
theorem HOk.traced (hok:HOk P w H h)(hfn:∀b∈frs l,H b=none)(fa:H a=none)(fT:H T=none)(keep:∀b o,b∉frs l->b≠a->b≠T->h.get? b=some o->h'.get? b=some o):HOk P w H h':=λb o e=>by
 refine(hok b o e).stay (λc u hc q=>?_) (λ_ q=>q) λ_ _ q=>q
 have hn:H c≠none:=by
  rcases hc with z |z
  ·rw[z,e];exact λy=>nomatch y
  ·rw[z];exact λy=>nomatch y
 exact keep c u (λz=>hn (hfn c z)) (λz=>hn (z▸fa)) (λz=>hn (z▸fT)) q
theorem Fl.after (x:Fl h0 h H a T cls)(hl:h.FunFrames base l)(hfn:∀b∈frs l,H b=none)(hok:HOk P w H h)(th:∀b o,h0.get? b=some o->∃o',h.get? b=some o')
  (st:(CP h (frs l) a T).StaysIn h')(tr:h'.TracedW (CP h (frs l) a T) a cls a0)(up:h.UpToSlots h'):∃T',Fl h0 h' H a T' cls/\HOk P w H h'/\Un (frs l) [a,T] H H h h':=by
 obtain⟨oe,vs,T',oT,ts,ha,⟨hc,h0'⟩,hd,h1,hnT,hne,hT,hdT,h3⟩:=tr
 have key:T'=T∨h.get? T'=none:=by
  cases q:h.get? T' with
  |none=>exact .inr rfl
  |some o=>
   by_cases hf:T'∈frs l
   ·obtain⟨_,o2,ho2,hd2⟩:=hl.mem hf
    obtain⟨sl,e2⟩:=up T' o2 ho2 hd2
    rw[hT] at e2;cases e2
    exact absurd hdT (hd2 ts)
   ·by_cases hz:T'=T
    ·exact .inl hz
    ·rw[Z4 q hf hne hz] at hnT;cases hnT
 have keep:∀b o,b∉frs l->b≠a->b≠T->h.get? b=some o->h'.get? b=some o:=λb o n1 n2 n3 e=>st b o (Z4 e n1 n2 n3)
 refine⟨T',⟨x.na,?_,x.fa,?_,hne,oe,vs,oT,ts,a0,ha,hc,h0',hd,h1,hT,hdT,h3⟩,hok.traced hfn x.fa x.fT keep,Un.traced hl keep up⟩
 ·rcases key with e |e
  ·rw[e];exact x.nT
  ·cases q:h0.get? T' with
   |none=>rfl
   |some o=>obtain⟨o',e'⟩:=th _ _ q;rw[e] at e';cases e'
 ·rcases key with e |e
  ·rw[e];exact x.fT
  ·exact hok.un0 e
end
section
variable {fs fs2 ex ex2:List Addr}{H0 H H':Hp}{h0 h h':Heap}
theorem Un.past (u:Un fs ex H0 H h0 h)(v:Un fs2 ex2 H H' h h')(n:∀b,b∈ex2->h0.get? b=none)(f:∀b,b∈fs2->b∈fs∨h0.get? b=none):Un fs ex H0 H' h0 h' where
 keep:=λb o e m hb hx=>v.keep b o (u.keep b o e m hb hx) (u.free b o e m hx) (λz=>(f b z).elim hb λy=>by rw[e] at y;cases y) λz=>by rw[n b z] at e;cases e
 slot:=λb o e m hb hx=>by
  obtain⟨sl,q⟩:=u.slot b o e m hb hx
  obtain⟨sl2,q2⟩:=v.any q (u.free b o e m hx) (λz=>by rw[n b z] at e;cases e)
  exact⟨sl2,q2⟩
 free:=λb o e m hx=>by
  obtain⟨o',q⟩:=u.there b o e hx
  exact v.free b o' q (u.free b o e m hx) (λz=>by rw[n b z] at e;cases e)
 there:=λb o e hx=>by
  obtain⟨o',q⟩:=u.there b o e hx
  exact v.there b o' q (λz=>by rw[n b z] at e;cases e)
 tups:=λb xs q=>v.tups b xs (u.tups b xs q)
 frzs:=λb o x q=>v.frzs b o x (u.frzs b o x q)
 tbls:=λb ps q=>by
  obtain⟨m1,e1⟩:=u.tbls b ps q
  obtain⟨m2,e2⟩:=v.tbls b _ e1
  exact⟨m1++m2,by rw[e2,Array.append_assoc]⟩
end
theorem Inv.past {X:Cx}{pins:List (Addr×Obj)}{σ:St}{H H':Hp}{s:Shared}{h':Heap}{ch:List Addr}(I:Inv X pins σ H s)(u:Un (frs X.stack) ch H H' s.heap h')(hok:HOk X.prog X.w H' h')
  (hch:∀b∈ch,X.s₀.heap.get? b=none/\b≠X.env.locals/\(∀x c,X.env.cells.lookup x=some c->c≠b)/\∀p∈X.pn++pins,p.1≠b):Inv X pins σ H' {s with heap:=h'}:=by
 have nL:X.s₀.heap.get? X.env.locals=none:=Heap.get?_none_of_le I.ok.above
 obtain⟨m,⟨o,es,ep,ho,hd,hr⟩,hl⟩:=id I.loc
 have lch:X.env.locals∉ch:=λz=>(hch _ z).2.1 rfl
 obtain⟨sl,hL⟩:=u.any ho I.free lch
 have cl:∀x c v,X.env.cells.lookup x=some c->s.heap.IsCell c v->h'.IsCell c v:=λx c v e ⟨oc,e1,e2⟩=>by
  obtain⟨sl,q⟩:=u.any e1 (I.freeC x c e) λz=>(hch c z).2.2.1 x c e rfl
  exact⟨_,q,e2⟩
 refine⟨I.ok,I.os,I.bare,I.base.past u (λb hb=>(hch b hb).1) λb hb=>?_,⟨m,⟨_,es,ep,hL,hd,hr⟩,λi x v e1 e2 e3=>?_⟩,λx c e=>?_,u.free _ o ho I.free lch,λx c e=>?_,λp hp=>?_,hok,I.len⟩
 ·rcases List.mem_cons.mp (I.stkSub b hb) with z |z
  ·exact .inr (z▸nL)
  ·exact .inl z
 ·obtain⟨u',r,q⟩:=hl i x v e1 e2 e3
  refine⟨u',r,?_⟩
  rcases q with q | ⟨k,c,e,z⟩
  ·exact .inl q
  ·exact .inr ⟨k,c,e,cl x c _ e z⟩
 ·obtain⟨v,z⟩:=I.cell x c e
  exact⟨v,cl x c v e z⟩
 ·obtain⟨v,oc,e1,_⟩:=I.cell x c e
  exact u.free c oc e1 (I.freeC x c e) λz=>(hch c z).2.2.1 x c e rfl
 ·obtain⟨e,n,ne,nf,d⟩:=I.pin p hp
  have nch:p.1∉ch:=λz=>(hch p.1 z).2.2.2 p hp rfl
  exact⟨u.keep p.1 p.2 e n (λz=>(List.mem_cons.mp (I.stkSub _ z)).elim ne nf) nch,u.free p.1 p.2 e n nch,ne,nf,d⟩
noncomputable def CXE (P:Program)(w:World):CXT:=λouter H s E e s'=>∃ a T C H',e= .ref a/\Fl s.heap s'.heap H' a T (.ref C)/\s'.os=s.os/\AllBare s'.gens/\Un (frs outer) [] H H' s.heap s'.heap/\HOk P w H' s'.heap/\E (.ref C) none H'
section
variable {P:Program}{w:World}{K:PySem.W.Frag}{mg:Str->Option Value}{base:Heap}{N:List Str}{qual:Str}{scope:Scope}{f:Addr}{cd:Value}{A:Around}{outer:List Env}{s0:Shared}{H0:Hp}{E:XK}
theorem Hz:VF (CXE P w) (Fe (CXE P w) P w K mg base N qual scope f cd A outer s0 H0 E) E:=by
 intro pins σ H s e s' I ⟨a,T,C,H',he,x,os,bare,un,hok,q⟩
 subst he
 have I2:=I.call' os un hok bare (λb z=>nomatch z)
 have th:∀b o,s0.heap.get? b=some o->∃o',s.heap.get? b=some o':=λb o e=>I.base.there b o e (λz=>nomatch z)
 have nn:∀b,s.heap.get? b=none->s0.heap.get? b=none:=λb n=>by
  cases q:s0.heap.get? b with
  |none=>rfl
  |some o=>obtain⟨o',e⟩:=th b o q;rw[n] at e;cases e
 have x0:Fl s0.heap s'.heap H' a T (.ref C):=⟨nn _ x.na,nn _ x.nT,x.fa,x.fT,x.ne,x.obj⟩
 obtain⟨a0,fl⟩:=x0.fly I2.stack
 refine wpAny_leaves_onW I.ok.frames rfl fl λh' fl' up=>?_
 obtain⟨T',y1,y2,y3⟩:=x0.after I2.stack I2.stkFree hok (λb o e=>I2.base.there b o e (λz=>nomatch z)) fl'.1 fl'.2.2.2 up
 refine⟨a,T',C,H',rfl,y1,I2.os,bare,I2.base.past y3 (λb hb=>?_) λb hb=>?_,y2,q⟩
 ·rcases List.mem_cons.mp hb with z |z
  ·rw[z];exact x0.na
  ·rw[List.mem_singleton.mp z];exact x0.nT
 ·rcases List.mem_cons.mp (I2.stkSub b hb) with z |z
  ·exact .inr (z▸Heap.get?_none_of_le I.ok.above)
  ·exact .inl z
noncomputable def Eb (X:Cx)(E:XK):Prop:=∀ (pins:List (Addr×Obj)) (σ:St) (H:Hp) (s:Shared) (C e:Addr) (vs:List Value) (h':Heap),Inv X pins σ H s->Heap.MadeExcOf s.heap h' e (.ref C) vs->E (.ref C) none H->X.xe (.ref e) {s with heap:=h'}
theorem VI:Eb (Fe (CXE P w) P w K mg base N qual scope f cd A outer s0 H0 E) E:=by
 intro pins σ H s C e vs h' I hx q
 have nn:∀b,s.heap.get? b=none->s0.heap.get? b=none:=λb n=>by
  cases q:s0.heap.get? b with
  |none=>rfl
  |some o=>obtain⟨o',e⟩:=I.base.there b o q (λz=>nomatch z);rw[n] at e;cases e
 refine wpAny_leaves_madeW (base:=CP s.heap (frs (Fe (CXE P w) P w K mg base N qual scope f cd A outer s0 H0 E).stack) e e) (h:=s.heap) I.ok.frames rfl (λb o z=>(Ui z).1) (VR I.stack λb hb=>Zf (.inl hb)) hx λh2 t fl _ _ up=>?_
 obtain⟨st,_,_,oe,us,T,oT,ts,ha,⟨hc,h0'⟩,hd,h1,hnT,hne,hT,hdT,h3⟩:=fl
 have up2:s.heap.UpToSlots h2:=λb o z n=>up b o (hx.keeps b o z) n
 have hT0:s.heap.get? T=none:=by
  cases q:s.heap.get? T with
  |none=>rfl
  |some o=>
   by_cases hf:T∈frs (Fe (CXE P w) P w K mg base N qual scope f cd A outer s0 H0 E).stack
   ·obtain⟨_,o2,ho2,hd2⟩:=I.stack.mem hf
    obtain⟨sl,e2⟩:=up2 T o2 ho2 hd2
    rw[hT] at e2;cases e2
    exact absurd hdT (hd2 ts)
   ·rw[Z4 q hf hne hne] at hnT;cases hnT
 have keep:∀b o,b∉frs (Fe (CXE P w) P w K mg base N qual scope f cd A outer s0 H0 E).stack->b≠e->b≠T->s.heap.get? b=some o->h2.get? b=some o:=λb o n1 n2 _ z=>st b o (Z4 z n1 n2 n2)
 have fe:=I.hok.un0 hx.new
 have fT:=I.hok.un0 hT0
 refine⟨e,T,C,H,rfl,⟨nn _ hx.new,nn _ hT0,fe,fT,hne,oe,us,oT,ts,_,ha,hc,h0',hd,h1,hT,hdT,h3⟩,I.os,I.bare,I.base.past (Un.traced I.stack keep up2) (λb hb=>?_) λb hb=>?_,I.hok.traced I.stkFree fe fT keep,q⟩
 ·rcases List.mem_cons.mp hb with z |z
  ·rw[z];exact nn _ hx.new
  ·rw[List.mem_singleton.mp z];exact nn _ hT0
 ·rcases List.mem_cons.mp (I.stkSub b hb) with z |z
  ·exact .inr (z▸Heap.get?_none_of_le I.ok.above)
  ·exact .inl z
end
structure FnX (P:Program)(w:World)(K:PySem.W.Frag)(mg:Str->Option Value)(base:Heap)(k:Nat)(x:Str)(ps:List Str)(sp:Sp):Prop where
 ex:∃f fd,FnOk P w K mg base (CXE P w) k f fd ps sp/\UA K fd ps []/\PySem.W.keepIn K (.ref f)=true/\mg x=some (.ref f)
section
variable {X:Cx}{k j:Nat}{x:Str}{ps:List Str}{sp:Sp}{e:Expr}{es:List Expr}{t:TA}{p pos:Pos}{E:XK}
theorem GQ (G:FnX X.prog X.w X.K X.mg X.base k x ps sp)(hr:Room j X.A)(hj:k<=j)(hx:VF (CXE X.prog X.w) X E)(ha:PA X (e::es) t)(hg:Gl X x:=by rfl)(hdb:(x==("__debug__":Str))=false:=by decide)
  (he:starEach (e::es) X.env=(false,eval e X.env)::starEach es X.env:=by rfl)(hpl:(backTo pos (starEach es X.env)).any (·.1)=false:=by rfl):
  PE X (.Call (.Name x p) (e::es) [] pos) (U5 sp [] E t):=by
 obtain⟨f,fd,F,b,kp,m⟩:=G.ex
 exact Di F (hr.mono hj) hg m kp b .nil hx ha hdb he hpl
end
theorem Fp {P:Program}{w:World}{K:PySem.W.Frag}{mg:Str->Option Value}{base:Heap}{x:Str}{st:Stmt}{N ps:List Str}{k:Nat}{sp:Sp}(D:Def K mg x st ps)(S:FnScope N ps (Xi st))(len:∀vs H Q E,sp vs H Q E->vs.length=ps.length)
  (hbody:∀(f:Addr) (cdv:Value) (A:Around) (outer:List Env) (s:Shared) (H:Hp) (vs:List V) (Q:VK) (E:XK),Room k (A.deeper (envOfC x (Xi st) s.heap.objs.size f cdv))->sp vs H Q E->
   ∃t,PSs (Fe (CXE P w) P w K mg base N x (Xi st) f cdv A outer s H E) (Yo st) t/\t {nx:=λ_ H'=>Q .non H',rt:=Q} (Vc N vs) H):FnX P w K mg base (k+1) x ps sp:=by
 obtain⟨f,fd,F,b,m⟩:=D
 obtain⟨oc,od,kV,doc,pm,an,cdv,ct,osl,rfl,lk,hcd⟩:=F.ex
 exact⟨f,_,I9 lk hcd S len λA outer s H vs Q E hr hsp=>hbody f cdv A outer s H vs Q E hr hsp,b,F.kp,m⟩
theorem Dj {K:PySem.W.Frag}{h:Heap}{C:Addr}{bmB:List Value}{newId:String}(X:K.In h)(q:PySem.W.excIn K C bmB newId=true):
  ∃bm N nm q bs hdct sn sub ab col dd k0 k1 k2 k3 k5 mN,h.get? C=some (excClassObj nm q C N bs bm hdct sn sub ab col dd k0 k1 k2 k3 k5 newId)/\h.Ns N mN/\mN "__init__" =none/\OwnTail h bmB bm:=by
 unfold PySem.W.excIn at q
 split at q
 ·rename_i dd cd sl ho
  split at q
  ·rename_i C' bm k0 k1 k2 k3 n k5 hm hs
   simp only[Bool.and_eq_true,beq_iff_eq,Bool.not_eq_true'] at q
   obtain⟨⟨⟨⟨⟨q1,q2⟩,q3⟩,q4⟩,q5⟩,q6⟩:=q
   subst q1 q2
   obtain⟨nm,bs,mro,ns,qn,hd,sn,sub,ab,col,del⟩:=cd
   have e1:mro=_:=hm
   have e2:del=false:=q3
   subst e1 e2
   obtain⟨l⟩:=sl
   have e3:l=_:=hs
   subst e3
   exact⟨bm,ns,nm,qn,bs,hd,sn,sub,ab,col,dd,k0,k1,k2,k3,k5,_,X _ _ ho, .of_isNs (PySem.W.isNs_of_in X q5),PySem.W.nsMap_none_of_in X q5 q6,PySem.W.tail_of_in X q4⟩
  ·cases q
 ·cases q
abbrev vEr:List Value:=[.type "ValueError", .type "Exception", .type "BaseException", .type "object"]
noncomputable def B0 (C:Addr)(E:XK)(t:TA):TS:=λ_ σ H=>t σ H λvs H1=>vs.length<=9/\E (.ref C) none H1
section
variable {X:Cx}{E:XK}{C:Addr}{x:Str}{e:Expr}{es:List Expr}{t:TA}{np cpos pos:Pos}
theorem Z2 (hR:Eb X E)(hc:X.calm=true)(hq:PySem.W.excIn X.K C vEr "ValueError.__new__" =true)(hg:Gl X x)(hm:X.mg x=some (.ref C))(ha:PA X (e::es) t)(hdb:(x==("__debug__":Str))=false:=by decide)
  (he:starEach (e::es) X.env=(false,eval e X.env)::starEach es X.env:=by rfl)(hpl:(backTo cpos (starEach es X.env)).any (·.1)=false:=by rfl):
  PS X (.Raise (some (.Call (.Name x np) (e::es) [] cpos)) none pos) (B0 C E t):=by
 intro pins s σ H D I h
 obtain⟨bm,N,nm,q,bs,hdct,sn,sub,ab,col,dd,k0,k1,k2,k3,k5,mN,hC,hN,hni,T⟩:=Dj I.ok.mod.kin hq
 refine wpAny_Raise_call_subU (C:=C) (nm:=nm) (q:=q) (N:=N) (bs:=bs) (bm:=bm) (hdct:=hdct) (sn:=sn) (sub:=sub) (ab:=ab) (col:=col) (dd:=dd) (k0:=k0) (k1:=k1) (k2:=k2) (k3:=k3) (k5:=k5) (bmB:=vEr)
  PySem.F.excBase_ValueError rfl PySem.F.excBase_ValueError (mN:=mN) (T.hasType rfl) (I.ok.hd hc) (by rw[he];show(false || (backTo cpos (starEach es X.env)).any (·.1))=false;rw[hpl];rfl) hni (VZ I hg hm ⟨rfl,?_⟩ hdb)
 have h2:=ha cpos pins s σ H _ I h
 rw[he] at h2⊢
 refine Calls.evalArgs_plain (wpAny_mono h2 (λus s2 ⟨vs,H1,I1,r,hl,hE⟩=>⟨rfl,?_,I1.bk _ _ hC,hN.keeps I1.bk,T.keeps I1.bk,λh' a hx=>hR pins σ H1 s2 C a us h' I1 hx hE⟩) λ_ _ y=>y)
 have:us.length<=9:=by rw[←r.length];exact hl
 exact Nat.le_trans this (by decide)
end
noncomputable abbrev TJ:=St->Hp->(Hp->Prop)->Prop
noncomputable def PJ (X:Cx)(es:List Expr)(n:Nat)(t:TJ):Prop:=
 ∀(pins:List (Addr×Obj)) (s:Shared) (σ:St) (H:Hp) (Q:Hp->Prop) (out:Str),Inv X pins σ H s->out.length<=n->t σ H Q->
  wpAny (model X.prog X.w) X.A (joinParts out (evalEach es X.env)) (λu s'=>∃ x tk H',u=Value.str x tk/\Inv X pins σ H' s'/\Q H') X.xe s
noncomputable def tJn:TJ:=λ_ H Q=>Q H
noncomputable def tJs (te:TE)(t:TJ):TJ:=λσ H Q=>te σ H λv H1=>∃ x:Str,v= .str x/\x.length<=1000/\t σ H1 Q
noncomputable def tF (t:TJ):TE:=λσ H Q=>t σ H λH1=>∀ x,Q (.str x) H1
section
variable {X:Cx}{e:Expr}{es:List Expr}{te:TE}{t:TJ}{n:Nat}{pos p:Pos}
theorem GO (h:n<=sizeLine:=by exact Nat.le_of_ble_eq_true rfl):PJ X [] n tJn:=λpins s σ H Q out I hl q=>
 joinParts_nil ⟨_,_,H,rfl,I.tok _,q⟩ (Nat.le_trans hl h)
theorem K3 (he:PE X e te)(hr:PJ X es (n+1000) t)(hz:n+1000<=sizeLine:=by exact Nat.le_of_ble_eq_true rfl):PJ X (e::es) n (tJs te t):=λpins s σ H Q out I hl q=>by
 refine joinParts_cons (wpAny_mono (he pins s σ H _ I q) (λu s1 r9=>?_) λ_ _ z=>z)
 obtain⟨v,H1,I1,r,x,hv,hx,q1⟩:=r9
 subst hv
 obtain⟨tk,hu⟩:∃tk,u=Value.str x tk:=r
 subst hu
 have hle:(out++x).length<=n+1000:=by rw[strLen_append];omega
 exact⟨Nat.le_trans hle hz,hr pins s1 σ H1 Q _ I1 hle q1⟩
theorem LM {e₁:Expr}(h:PJ X (e::e₁::es) 0 t):PE X (.JoinedStr (e::e₁::es) pos) (tF t):=λpins s σ H Q I q=>
 JoinedStr_many (wpAny_mono (h pins s σ H _ Str.empty I (Nat.le_refl _) q) (λu s' r9=>by obtain⟨x,tk,H',hu,I',q'⟩:=r9;exact⟨.str x,H',I',⟨tk,hu⟩,q' x⟩) λ_ _ z=>z)
end
noncomputable abbrev Cx.alt (X:Cx)(pn:List (Addr×Obj))(xe:Value->Shared->Prop):Cx:={X with pn:=pn,xe:=xe}
noncomputable abbrev Cx.held (X:Cx)(a:Addr)(pn:List (Addr×Obj)):Cx:={X with A:=X.A.mark (some (.ref a)),calm:=false,pn:=pn,xe:=λ_ _=>False}
noncomputable def blank (n:Nat):St:=List.replicate n none
noncomputable def MA (K:PySem.W.Frag)(n:Nat)(cc:Value)(i:Nat)(tb:XK->TS)(ts:Addr->Addr->TS):TS:=λD σ H=>
 tb (λc _ H'=>PySem.W.exmOne K c cc=some true/\∀a C,c= .ref C->H' a=none->ts a C {nx:=λ_=>D.nx (blank n),rt:=D.rt,bk:=λ_=>D.bk (blank n),ct:=λ_=>D.ct (blank n)} ((blank n).set i (some (.ref a))) H') D σ H
theorem Cx.Ok.alt {X:Cx}(ok:X.Ok)(pn:List (Addr×Obj))(xe:Value->Shared->Prop):(X.alt pn xe).Ok:=
 ⟨ok.mod,ok.kind,ok.glob,ok.blt,ok.above,ok.inj,ok.has,ok.cab,ok.hd,ok.frames,ok.stk,ok.exf,ok.bs,ok.bsz,ok.noex,ok.exfs,ok.funs,ok.frf⟩
theorem Cx.Ok.held {X:Cx}(ok:X.Ok)(a:Addr)(pn:List (Addr×Obj)):(X.held a pn).Ok:=
 ⟨ok.mod,ok.kind,ok.glob,ok.blt,ok.above,ok.inj,ok.has,ok.cab,(λz=>nomatch z),ok.frames,ok.stk,ok.exf,ok.bs,ok.bsz,ok.noex,ok.exfs,ok.funs,ok.frf⟩
section
variable {X:Cx}{pins:List (Addr×Obj)}{σ:St}{H:Hp}{s:Shared}{h':Heap}
theorem GF {n i:Nat}{v:V}(h:(blank n)[i]?=some (some v)):False:=by
 unfold blank at h
 rw[List.getElem?_replicate] at h
 split at h<;> cases h
theorem U9 {n:Nat}:(blank n).length=n:=by simp[blank]
theorem Inv.blank (I:Inv X pins σ H s):Inv X pins (blank X.N.length) H s:=I.weak (by rw[U9,I.len]) λi v h=>(GF h).elim
theorem Inv.forget {m':Str->Option Value}{t':Nat}(I:Inv X pins σ H s)(hn:h'.Ns X.env.locals m')(sb:Heap.SameBut X.env.locals s.heap h'):Inv X pins (L2.blank X.N.length) H {s with heap:=h',toks:=t'}:=by
 have v:Un [] [X.env.locals] H H s.heap h':=⟨λb o e n _ hx=>(sb.2 b λz=>hx (by simp[z])).trans e,(λb o e n hb _=>nomatch hb),λb o e n _=>n,λb o e hx=>⟨o,(sb.2 b λz=>hx (by simp[z])).trans e⟩,λ_ _ q=>q,λ_ _ _ q=>q,λ_ ps q=>⟨#[],by simpa using q⟩⟩
 refine⟨I.ok,I.os,I.bare,I.base.past v (λb hb=>?_) (λb hb=>nomatch hb),⟨m',hn,λi x v _ e2=>(GF e2).elim⟩,λx c e=>?_,I.free,I.freeC,λp hp=>?_,λb o e=>?_,U9⟩
 ·rw[List.mem_singleton.mp hb];exact Heap.get?_none_of_le I.ok.above
 ·obtain⟨v,o,e1,e2⟩:=I.cell x c e
  exact⟨v,o,(sb.2 c (I.cne x c e)).trans e1,e2⟩
 ·obtain⟨e,n,ne,nf,d⟩:=I.pin p hp
  exact⟨(sb.2 p.1 ne).trans e,n,ne,nf,d⟩
 ·refine(I.hok b o e).stay (λc u hc q=>(sb.2 c λz=>?_).trans q) (λ_ q=>q) λ_ _ q=>q
  have hf:=I.free
  rw[←z] at hf
  rcases hc with y |y
  ·rw[y,e] at hf;cases hf
  ·rw[y] at hf;cases hf
end
section
variable {X:Cx}{body suite:List Stmt}{b₀:Stmt}{cn n:Str}{Ch:Addr}{i:Nat}{tb:XK->TS}{ts:Addr->Addr->TS}{np hpos pos:Pos}
theorem IE (hst:X.stack=X.env::X.outer)(hex:X.ex=[])(hfr:X.env.frame=some X.env.locals)(hg:Gl X cn)(hm:X.mg cn=some (.ref Ch))(hN:X.N.Nodup)(hi:X.N[i]?=some n)(hlo:X.env.kindOf n=some .local)(hlo2:X.env.scope.names.lookup n=some .local)
  (hb:∀pn xe E,VF (CXE X.prog X.w) (X.alt pn xe) E->PSs (X.alt pn xe) body (tb E))
  (hs:∀pn a o C,(a,o)∈pn->o.cls= .ref C->PSs (X.held a pn) (b₀::suite) (ts a C))
  (hdb:(cn==("__debug__":Str))=false:=by decide):
  PS X (.Try body [.ExceptHandler (some (.Name cn np)) (some n) (b₀::suite) hpos] [] [] pos) (MA X.K X.N.length (.ref Ch) i tb ts):=by
 intro pins s σ H D I h
 refine wpAny_Try_except ?_
 have I0:∀xe,Inv (X.alt (X.pn++pins) xe) [] σ H s:=λxe=>⟨I.ok.alt _ _,I.os,I.bare,I.base,I.loc,I.cell,I.free,I.freeC,λp hp=>I.pin p (by simpa using hp),I.hok,I.len⟩
 have back:∀{xe pins1 σ' H' s'},Inv (X.alt (X.pn++pins) xe) pins1 σ' H' s'->Inv X pins σ' H' s':=fun {xe pins1 σ' H' s'} J=>⟨I.ok,J.os,J.bare,J.base,J.loc,J.cell,J.free,J.freeC,λp hp=>J.pin p (List.mem_append_left _ hp),J.hok,J.len⟩
 refine wpAny_mono (hb (X.pn++pins) _ _ ?pp [] s σ H D (I0 _) h) (λf s1 hq=>?fin) λe s1 hq=>hq
 case fin=>
  cases f with
  |next=>obtain⟨σ',H',J,q⟩:=hq;exact wpAny_execs_nil ⟨σ',H',back J,q⟩
  |brk=>obtain⟨σ',H',J,q⟩:=hq;exact⟨σ',H',back J,q⟩
  |cont=>obtain⟨σ',H',J,q⟩:=hq;exact⟨σ',H',back J,q⟩
  |ret u=>obtain⟨v,σ',H',J,r,q⟩:=hq;exact⟨v,σ',H',back J,r,q⟩
 case pp=>
  intro pins1 σ1 H1 s1 e s' I1 ⟨a,T,C,H',he,x,os,bare,un,hok,hexm,hts⟩
  subst he
  have I2:=I1.call' os un hok bare (λb z=>nomatch z)
  have J:Inv X pins (blank X.N.length) H' s':=(back I2).blank
  have q1:∀b,s1.heap.get? b=none->X.s₀.heap.get? b=none/\b≠X.env.locals/\(∀y c,X.env.cells.lookup y=some c->c≠b)/\∀p∈X.pn++pins,p.1≠b:=λb nb=>by
   refine⟨?_,λz=>?_,λy c hy z=>?_,λp hp z=>?_⟩
   ·cases q:X.s₀.heap.get? b with
    |none=>rfl
    |some o=>obtain⟨o',e⟩:=I1.base.there b o q (by show b∉X.ex;rw[hex];simp);rw[nb] at e;cases e
   ·obtain⟨m,⟨o,es,ep,ho,_⟩,_⟩:=I1.loc
    have ho':s1.heap.get? X.env.locals=some o:=ho
    rw[←z,nb] at ho';cases ho'
   ·obtain⟨v,o,ho,_⟩:=I1.cell y c hy
    rw[z,nb] at ho;cases ho
   ·obtain⟨e,_⟩:=I1.pin p (List.mem_append_left _ hp)
    rw[z,nb] at e;cases e
  have hl:s'.heap.FunFrames X.base (X.env::X.outer):=hst▸J.stack
  have hfn:∀b∈frs (X.env::X.outer),H' b=none:=hst▸J.stkFree
  have hA:X.A.frames=some (X.env::X.outer):=hst▸I.ok.frames
  obtain⟨a0,fl⟩:=x.fly hl
  refine wpAny_looks_onW hA hfr fl λh2 hd2 up2=>?_
  refine wpAny_landsW hd2 λh3 fl3 up3=>?_
  obtain⟨T3,x3,hok3,un3⟩:=x.after hl hfn hok (λb o e=>un.there b o e (λz=>nomatch z)) fl3.1 fl3.2.2.2 (up2.trans up3)
  have ch:∀{U:Addr},s1.heap.get? U=none->∀b∈[a,U],X.s₀.heap.get? b=none/\b≠X.env.locals/\(∀y c,X.env.cells.lookup y=some c->c≠b)/\∀p∈X.pn++pins,p.1≠b:=fun {U} nU b hb=>by
   rcases List.mem_cons.mp hb with z |z
   ·rw[z];exact q1 a x.na
   ·rw[List.mem_singleton.mp z];exact q1 U nU
  have J3:Inv X pins (blank X.N.length) H' {s' with heap:=h3}:=J.past (by rw[hst];exact un3) hok3 (ch x.nT)
  have hh:∀{pn:List (Addr×Obj)}{s4:Shared},Inv X pins (blank X.N.length) H' s4->(∀p∈pn,p∈X.pn++pins∨(p.1=a/\s4.heap.get? a=some p.2/\∀v,p.2.data≠ .cell v))->Inv (X.held a pn) [] (blank X.N.length) H' s4:=fun {pn s4} J4 hp4=>by
   refine⟨I.ok.held _ _,J4.os,J4.bare,J4.base,J4.loc,J4.cell,J4.free,J4.freeC,λp hp=>?_,J4.hok,J4.len⟩
   rcases hp4 p (by simpa using hp) with z | ⟨z1,z2,z3⟩
   ·exact J4.pin p z
   ·refine⟨by rw[z1];exact z2,by rw[z1];exact x.fa,by rw[z1];exact(q1 a x.na).2.1,?_,z3⟩
    rw[z1]
    intro y
    obtain⟨_,o2,ho2,_⟩:=I.ok.funs.mem y
    rw[(q1 a x.na).1] at ho2
    cases ho2
  have hl3:h3.FunFrames X.base (X.env::X.outer):=hst▸J3.stack
  obtain⟨oe,vs,oT,tts,a1,ha3,hc3,_⟩:=id x3.obj
  have J3h:=hh (pn:=X.pn++pins) J3 λp hp=>.inl hp
  refine wpAny_handleBy_cons (codeAny_handlers_test (VZ J3h hg hm ?_ hdb)) (by intro q;cases q)
  have LT:PySem.W.Looks (model X.prog X.w) h3 (typeOf (.ref a)) (.ref C):=hc3▸(PySem.W.Looks.ld ha3).andThen .now
  refine PySem.W.exm_one J3.kIn LT hexm _ _ _ _ (λ_ _ e=>e) ?_
  refine codeAny_handlers_suite_as ?_
  obtain⟨a2,fl4⟩:=x3.fly hl3
  refine lands_againW fl4 λh5 fl5 up5=>?_
  obtain⟨T5,x5,hok5,un5⟩:=x3.after hl3 hfn hok3 (λb o e=>by
   obtain⟨o',e'⟩:=un.there b o e (λz=>nomatch z)
   by_cases z:b∈[a,T]
   ·rcases List.mem_cons.mp z with z |z
    ·rw[z,x.na] at e;cases e
    ·rw[List.mem_singleton.mp z,x.nT] at e;cases e
   ·exact un3.there b o' e' z) fl5.1 fl5.2.2.2 up5
  have J5:Inv X pins (blank X.N.length) H' {s' with heap:=h5}:=J3.past (by rw[hst];exact un5) hok5 (ch x3.nT)
  obtain⟨oe5,vs5,oT5,ts5,a5,ha5,hc5,_,hd5,_⟩:=id x5.obj
  have J5h:=hh (pn:=(a,oe5)::(X.pn++pins)) J5 λp hp=>by
   rcases List.mem_cons.mp hp with z |z
   ·rw[z];exact .inr ⟨rfl,ha5,λv q=>by rw[hd5] at q;cases q⟩
   ·exact .inl z
  refine Ug (X:=X.held a ((a,oe5)::(X.pn++pins))) (v:=.ref a) J5h hN hi (.inl hlo2) rfl (λs6 J6=>?_) (.inr hlo2)
  refine wpAny_mono (hs _ a oe5 C List.mem_cons_self hc5 [] s6 _ H' _ J6 (hts a C rfl x.fa)) (λf s7 hq=>?_) λ_ _ z=>z.elim
  have fin:∀{σ7 H7}{Q:Unit->Shared->Prop},Inv (X.held a ((a,oe5)::(X.pn++pins))) [] σ7 H7 s7->(∀s8,Inv X pins (blank X.N.length) H7 s8->Q () s8)->wpAny (model X.prog X.w) X.A (do bindName X.env n .none;unbindBehindTheSuite X.env n hpos) Q X.xe s7:=fun {σ7 H7 Q} J7 q=>by
   obtain⟨m,hn,_⟩:=id J7.loc
   refine wpAny_nameGoes hlo hn (by rw[I.ok.kind];rfl) λh8 m8 hn8 sb8=>q _ ?_
   have J8:=J7.forget (t':=s7.toks+1) hn8 sb8
   exact⟨I.ok,J8.os,J8.bare,J8.base,J8.loc,J8.cell,J8.free,J8.freeC,λp hp=>J8.pin p (by simpa using .inr (by simpa using hp)),J8.hok,J8.len⟩
  cases f with
  |next=>obtain⟨σ7,H7,J7,q⟩:=hq;exact fin J7 λs8 J8=>⟨_,H7,J8,q⟩
  |brk=>obtain⟨σ7,H7,J7,q⟩:=hq;exact fin J7 λs8 J8=>⟨_,H7,J8,q⟩
  |cont=>obtain⟨σ7,H7,J7,q⟩:=hq;exact fin J7 λs8 J8=>⟨_,H7,J8,q⟩
  |ret u=>obtain⟨v,σ7,H7,J7,r,q⟩:=hq;exact fin J7 λs8 J8=>⟨v,_,H7,J8,r,q⟩
end
section
variable {K:PySem.W.Frag}{Er:Exc->Hp->Prop}{S:SC}{OO OO' OO2:List (List Xn)}{σ:St}{α β γ ρ ι:Type}{α1 α2 α3 α4 α5 α6:Type}{mg:Str->Option Value}{E:XK}
noncomputable def ErE (mg:Str->Option Value)(E:XK):Exc->Hp->Prop:=λx H=>∀ C,mg x.cls=some (.ref C)->E (.ref C) none H
structure PX {β:Type}(Er:Exc->Hp->Prop)(F:β->Hp->Prop)(H:Hp)(m:Rs β):Prop where
 z:PZ Er F H m
noncomputable def EE (mg:Str->Option Value)(r1:Enc α1)(o:OE ρ)(f:α1->Rs ρ)(K:PySem.W.Frag):Sp:=λvs H Q E=>∃ v1 a1,vs=[v1]/\r1 K H v1 a1/\PX (ErE mg E) (FF K o Q) H (f a1)
theorem IM {o:OE ρ}[FlatO o]{Q:VK}{H:Hp}{m:Rs ρ}(w:W OO H)(P:PZ Er (FO K OO OO o Q) H m):PZ Er (FF K o Q) H m:=by
 cases m with
 |bad=>exact P
 |err x=>exact P
 |ok b=>exact JI w P
theorem QB {ta:TE}{r1:Enc α1}{o:OE ρ}[FlatO o]{f:α1->Rs ρ}{ma:Rs α1}(ha:EvB K (ErE mg E) S OO σ ta r1 ma):Ev K (ErE mg E) S OO OO σ (U5 (EE mg r1 o f K) [] E (XT ta ZO)) o (ma.bind λa=>f a):=λH Q w s P=>
 ha.run w s FO.tr P λa x H1 s1 w1 q1 r1 P1=>⟨x,a,rfl,r1,⟨IM w1 P1⟩⟩
theorem DS {o:OE ρ}[MonoO o]{t:TS}{m:Rs ρ}{Q:VK}{H:Hp}{D:Ends}(n:Nat)(h:Sv (ErE mg E) S (List.replicate n []) σ t (FTd K o) m)(hs:S.p H)(PP:PX (ErE mg E) (FF K o Q) H m)(hD:D.rt=Q):t D σ H:=by
 have P:=PP.z
 refine h H D (Lk n H) (by rw[BA];exact hs) ?_
 rw[BA]
 cases m with
 |bad=>exact P
 |err x=>exact P
 |ok b=>
  intro v C OO' H' w mm ho
  rw[hD]
  exact Ec P v C OO' H' w mm ho
noncomputable def FJ (Q:Hp->Prop)(_:Unit)(H:Hp):Prop:=∀ H',Xo H H'->Q H'
theorem FJ.tr {Q:Hp->Prop}:∀(b:Unit) (H H':Hp),Xo H H'->FJ Q b H->FJ Q b H':=λ_ _ _ s h H2 s2=>h H2 (s.trans s2)
noncomputable def EvJ (Er:Exc->Hp->Prop)(S:SC)(OO:List (List Xn))(σ:St)(t:TJ)(m:Rs Unit):Prop:=∀ H Q,W OO H->S.p (hid H OO)->PZ Er (FJ Q) H m->t σ H Q
theorem V2:EvJ Er S OO σ tJn (.ok ()):=λH Q _ _ P=>P H (Xo.refl _)
theorem VS {x:Str}{t:TJ}{m:Rs Unit}(h:EvJ Er S OO σ t m)(hx:x.length<=1000:=by first |decide |decide+kernel):EvJ Er S OO σ (tJs (tC (.str x)) t) m:=λH Q w s P=>⟨x,rfl,hx,h H Q w s P⟩
noncomputable def EvX (Er:Exc->Hp->Prop)(S:SC)(OO:List (List Xn))(σ:St)(t:TE)(m:Rs Unit):Prop:=∀ H (Q:VK),W OO H->S.p (hid H OO)->PZ Er (FJ λH=>∀ v,Q v H) H m->t σ H Q
theorem C9 {t:TJ}{m:Rs Unit}(h:EvJ Er S OO σ t m):EvX Er S OO σ (tF t) m:=λH Q w s P=>h H _ w s (by
 cases m with
 |bad=>exact P
 |err x=>exact P
 |ok b=>exact λH' s' x=>P H' s' _)
theorem CH {x:Str}:EvX Er S OO σ (tC (.str x)) (.ok ()):=λH Q _ _ P=>P H (Xo.refl _) _
variable {Fd:Ends->β->Hp->Prop}[fd:FdOk Fd]{u:TS}
theorem ZY {te:TE}{m:Rs Unit}{C:Addr}{n:Str}(hm:mg n=some (.ref C))(h:EvX (ErE mg E) S OO σ te m):Sv (ErE mg E) S OO σ (Q9 (B0 C E (XT te ZO)) u) Fd (m.bind λ_=>.err ⟨n, .non⟩):=λH D w s P=>
 h H _ w s (by
  cases m with
  |bad=>exact P
  |err x=>exact λH' s'=>P H' (Xu.trans s')
  |ok b=>exact λH' s' v=>⟨Nat.le_of_ble_eq_true rfl,P H' (Xu.trans s') C hm⟩)
noncomputable def Zb (n d:Str):Bool:=n==d || d==("PlaitError":Str)
noncomputable def erA (K:PySem.W.Frag)(C:Addr):Bool:=PySem.W.findIn K (.ref C) "__getattribute__" ==some (some (.builtin "BaseException.__getattribute__"))&&PySem.W.findIn K (.ref C) "__getattr__" ==some none&&PySem.W.findIn K (.ref C) "__class__" ==some (some (.builtin "object.__class__"))&&
 PySem.W.specialIn K (.builtin "object.__class__") "__get__" ==some (some (.builtin "getset_descriptor.__get__"))&&PySem.W.takesIn K (.builtin "object.__class__")==some true&&PySem.W.mroIn K C (.type "object")==some true&&(PySem.W.clsIn K C).isSome&&PySem.W.mroIn K C (.type "BaseException")==some true
noncomputable def QS (n:Str):Bool:=!(n==("NotADrawing":Str))&&!(n==("NoChain":Str))
noncomputable def HC (K:PySem.W.Frag)(cs:List (Str×Addr)):Bool:=cs.all λp=>(!(QS p.1) || PySem.W.excIn K p.2 vEr "ValueError.__new__")&&erA K p.2&&PySem.W.kitOne K (.ref p.2) (.type "ValueError")==some true&&
 cs.all λq=>PySem.W.kitOne K (.ref p.2) (.ref q.2)==some (Zb p.1 q.1)&&PySem.W.exmOne K (.ref p.2) (.ref q.2)==some (Zb p.1 q.1)
structure Ecs (ns:List Str)(K:PySem.W.Frag)(mg:Str->Option Value):Prop where
 adr:∀n∈ns,∃C,mg n=some (.ref C)/\(QS n=true->PySem.W.excIn K C vEr "ValueError.__new__" =true)
 att:∀n∈ns,∀C,mg n=some (.ref C)->erA K C=true
 val:∀n∈ns,∀C,mg n=some (.ref C)->PySem.W.kitOne K (.ref C) (.type "ValueError")=some true
 kit:∀n∈ns,∀d∈ns,∀C D,mg n=some (.ref C)->mg d=some (.ref D)->PySem.W.kitOne K (.ref C) (.ref D)=some (Zb n d)
 exm:∀n∈ns,∀d∈ns,∀C D,mg n=some (.ref C)->mg d=some (.ref D)->PySem.W.exmOne K (.ref C) (.ref D)=some (Zb n d)
theorem LG {cs:List (Str×Addr)}(h:HC K cs=true)(hn:∀p∈cs,mg p.1=some (.ref p.2)):Ecs (cs.map (·.1)) K mg:=by
 have key:∀n∈cs.map (·.1),∀C,mg n=some (.ref C)->(n,C)∈cs:=λn hm C hC=>by
  obtain⟨⟨n',C'⟩,hp,rfl⟩:=List.mem_map.mp hm
  have:=hn _ hp
  rw[hC] at this
  cases this
  exact hp
 have hp:∀p∈cs,_:=List.all_eq_true.mp h
 simp only[Bool.and_eq_true,List.all_eq_true,beq_iff_eq,Bool.or_eq_true] at hp
 refine⟨λn hm=>?_,λn hm C hC=>(hp _ (key n hm C hC)).1.1.2,λn hm C hC=>(hp _ (key n hm C hC)).1.2,λn hm d hd C D hC hD=>((hp _ (key n hm C hC)).2 _ (key d hd D hD)).1,λn hm d hd C D hC hD=>((hp _ (key n hm C hC)).2 _ (key d hd D hD)).2⟩
 obtain⟨⟨n',C'⟩,hq,rfl⟩:=List.mem_map.mp hm
 exact⟨C',hn _ hq,λe=>(hp _ hq).1.1.1.resolve_left (by rw[e];exact Bool.false_ne_true)⟩
noncomputable def cau (ns:List Str)(n d:Str):Bool:=decide (n∈ns)&&Zb n d
noncomputable def Rs.tryC (m:Rs α)(f:α->Rs β)(g:Exc->Rs β):Rs β:=match m with
 | .bad=>.bad
 | .err x=>g x
 | .ok a=>f a
theorem E7 {c:Prop}[Decidable c]{m:Rs β}{F:β->Hp->Prop}{H:Hp}(P:PZ Er F H (chk c m)):c/\PZ Er F H m:=by
 by_cases hc:c
 ·rw[Xj hc] at P;exact⟨hc,P⟩
 ·unfold chk at P
  rw[if_neg hc] at P
  exact P.elim
section
variable {te:XK->TE}{m:Rs α}{ts:Addr->Addr->TS}{N i:Nat}{Ch:Addr}{o:OE ρ}{g:Exc->Rs ρ}{ns:List Str}{d:Str}
theorem Hh {x:Exc}{H:Hp}{D D':Ends}(hD:D'.rt=D.rt)(Y:Ecs ns K mg)(hd:d∈ns)(hm:mg d=some (.ref Ch))(hs:∀x,x.cls∈ns->∀C a,mg x.cls=some (.ref C)->Sv Er S OO ((blank N).set i (some (.ref a))) (ts a C) (FTd K o) (g x))(w:W OO H)(s:S.p (hid H OO))
  (P:PZ Er (FTd K o D) (hid H OO) (chk (cau ns x.cls d=true) (g x))):∀H',Xo H H'->∀C,mg x.cls=some (.ref C)->PySem.W.exmOne K (.ref C) (.ref Ch)=some true/\∀a C',Value.ref C= .ref C'->H' a=none->ts a C' D' ((blank N).set i (some (.ref a))) H':=λH' s' C hC=>by
 obtain⟨hc,P2⟩:=E7 P
 unfold cau at hc
 rw[Bool.and_eq_true,decide_eq_true_eq] at hc
 refine⟨by rw[Y.exm _ hc.1 d hd C Ch hC hm,hc.2],λa C' hC' _=>hs x hc.1 C' a (hC'.symm▸hC) H' D' (w.keep s') (S.mono _ _ (Xk s') s) ?_⟩
 have P3:=PZ.tr (FdOk.tr (Fd:=FTd K o) D) (Xk s') P2
 unfold FTd at P3⊢
 rw[hD]
 exact P3
theorem HZ {o1:OE α}[MonoO o1]{f:α->Rs ρ}(Y:Ecs ns K mg)(hd:d∈ns)(hm:mg d=some (.ref Ch))(j k:Nat)(he:∀E,Ev K (ErE mg E) S OO OO' σ (te E) o1 m)(hk:k<OO'.length)
  (hr:∀a v C,Sv Er (S.addO K o1 v a C) (OO'.set k C) (σ.set j (some v)) u (FTd K o) (f a))
  (hs:∀x,x.cls∈ns->∀C a,mg x.cls=some (.ref C)->Sv Er S OO ((blank N).set i (some (.ref a))) (ts a C) (FTd K o) (g x)):
  Sv Er S OO σ (Q9 (MA K N (.ref Ch) i (λE=>Q9 (Ed (te E) (Ql j)) GZ) ts) u) (FTd K o) (m.tryC f (λx=>chk (cau ns x.cls d=true) (g x))):=λH D w s P=>
 he _ H _ w s (by
  cases m with
  |bad=>exact P
  |err x=>exact Hh rfl Y hd hm hs w s P
  |ok a=>
   intro v C H' s' w' m' ho
   obtain⟨w2,h2⟩:=LQ w' hk
   exact hr a v C H' D w2 ⟨S.mono _ _ (m'.trans h2) s,MonoO.mono h2 ho⟩ (PZ.tr (FdOk.tr (Fd:=FTd K o) D) (m'.trans h2) P))
end
noncomputable def vOf:V->Value
 | .ref a=>.ref a
 | .ty n=>.type n
 |_=>.none
noncomputable def MD (K:PySem.W.Frag)(c:Value)(a:Addr)(xs:List V)(H:Hp)(Q:VK):Prop:=∃ d b C,c= .ref C/\erA K C=true/\xs=[.ref a,d]/\((∃D,d= .ref D)∨∃n,d= .ty n)/\PySem.W.kitOne K c (vOf d)=some b/\Q (.bl b) H
theorem KH {a C D:Addr}{b:Bool}(i:Nat)(hσ:σ[i]?=some (some (.ref a)))(hA:erA K C=true)(hk:PySem.W.kitOne K (.ref C) (.ref D)=some b):EvB K Er S OO σ (tCB (MD K (.ref C) a) (XT (Ux i) (XT (tC (.ref D)) ZO))) Xl (.ok b):=λH Q w s P=>
 ⟨_,hσ,_,b,C,rfl,hA,rfl, .inl ⟨D,rfl⟩,hk,P _ H (Xo.refl _) rfl⟩
end
end L2
namespace L2
open PySem PySem.Spec PyProof.Rows PySem.W PySem.Builtin PySem.Builtin.ObjectAttr PySem.Builtin.Getset_descriptor
section
variable {prog:Program}{w:World}{A:Around}{E:Value->Shared->Prop}{K:Frag}{x D:Addr}{s:Shared}
theorem BT {M:Model}{h:Heap}(X:K.In h)(cl:findIn K (.ref D) "__class__" =some (some (.builtin "object.__class__")))(sg:specialIn K (.builtin "object.__class__") "__get__" =some (some (.builtin "getset_descriptor.__get__")))(tk:takesIn K (.builtin "object.__class__")=some true):
  Looks M h (Builtin.ObjectAttr.find (.ref x) (.ref D) "__class__") (.bind (.builtin "getset_descriptor.__get__") (.builtin "object.__class__")):=by
 have L3:=looks_takesIn (M:=M) X tk
 exact(looks_findIn (M:=M) X cl).andThen ((looks_specialIn X sg).andThen ((show Looks M h (Builtin.ObjectAttr.dataDescriptor? (some (.builtin "object.__class__")) (some (.builtin "getset_descriptor.__get__"))) (some (.builtin "getset_descriptor.__get__", .builtin "object.__class__")) from L3.andThen .now).andThen (Looks.tag .now)))
theorem EK {R:Result->Shared->Prop}{tp:Value}(X:K.In s.heap)(L0:Looks (model prog w) s.heap (typeOf (.ref x)) (.ref D))(hm:mroIn K D (.type "object")=some true)
  (h:R (.ok (.ret (.ref D))) s):codeAny (model prog w) A (.call (.builtin "getset_descriptor.__get__") ⟨[.builtin "object.__class__", .ref x,tp],[]⟩) R s:=by
 obtain⟨hh,g,dr,t,os⟩:=s
 have L1:=looks_mroIn (M:=model prog w) X hm
 refine codeAny_call_builtin KF.slot_gs.plain KF.entry_gs (KF.slot_gs.check _ _ _ _ _ _ _ _ KF.type_class (KF.args_gs _ _ _) ?_)
 unfold Builtin.«getset_descriptor.__get__» descrGet
 rw[dga_obj]
 refine wpAny_bind (wpAny_pure ?_)
 unfold descrGetter descrCheckInstance descrNameAndClass isInstance
 simp only[KF.owner_class]
 repeat lk
 refine⟨Code.quiet_builtin _ (by decide+kernel),codeAny_builtin KF.entry_class ?_⟩
 unfold Builtin.«object.__class__» shownTypeOf
 repeat lk
 exact h
theorem DK {Q:Option Value->Shared->Prop}(X:K.In s.heap)(hx:∃o,s.heap.get? x=some o/\o.cls= .ref D)(hA:erA K D=true)(h:Q (some (.ref D)) {s with toks:=s.toks+1}):wpAny (model prog w) A (getAttr? (.ref x) "__class__") Q E s:=by
 obtain⟨hh,g,d,t,os⟩:=s
 obtain⟨o,ho,hc⟩:=hx
 unfold erA at hA
 simp only[Bool.and_eq_true,beq_iff_eq] at hA
 obtain⟨⟨⟨⟨⟨⟨⟨ga,gh⟩,cl⟩,sg⟩,tk⟩,mo⟩,ci⟩,mb⟩:=hA
 have L0:Looks (model prog w) hh (typeOf (.ref x)) (.ref D):=hc▸(Looks.ld ho).andThen .now
 have L1:=looks_findIn (M:=model prog w) X ga
 have L2:=looks_findIn (M:=model prog w) X gh
 have LB:=looks_mroIn (M:=model prog w) X mb
 have LF:=BT (M:=model prog w) (x:=x) X cl sg tk
 have f3:=PySem.F.attr_ValueError.ga.bind (.ref x)
 have hx2:(Value.builtin "BaseException.__getattribute__" ==Value.builtin "object.__getattribute__")=false:=by decide+kernel
 unfold getAttr? getAttrBy? getAttrBy
 refine wpAny_bind (wpAny_mkText (wpAny_bind (wpAny_attempt (wpAny_holding (wpAny_bind (L0.at (wpAny_bind (L1.at ?_))))))))
 dsimp only
 rw[hx2,Bool.and_false,if_neg Bool.false_ne_true]
 unfold getAttrByItsOwn hookBefore callGetattribute boundAndCalled
 refine wpAny_bind (L2.at ?_)
 refine wpAny_bind (wpAny_attempt (wpAny_holding ?_))
 rw[Bool.false_and,if_neg Bool.false_ne_true,f3]
 refine wpAny_bind (wpAny_pure ?_)
 refine wpAny_call (codeAny_call_builtin PySem.F.attr_ValueError.ga.plain PySem.F.entry_bexc_ga ?_)
 have hk:builtinKind "BaseException.__getattribute__" =some .slot:=by decide+kernel
 have hsplit:splitId "BaseException.__getattribute__" =some ("BaseException","__getattribute__"):=by decide+kernel
 have ha:=PySem.F.args_bexc_ga (.ref x) (Value.str (Str.ofString "__class__") t)
 simp only[checkBuiltinCall,hk,hsplit]
 unfold isInstance
 refine wpAny_bind (wpAny_bind (L0.at ?_))
 refine LB.at ?_
 rw[if_neg (by decide)]
 have fin:∀s1:Shared,s1=⟨hh,g,d,t+1,os⟩->wpAny (model prog w) A.in1 («object.__getattribute__» {pos:=[Value.ref x]++[Value.str (Str.ofString "__class__") t]}) (λfin s'=>match fin with | .done (.ret v)=>v= .ref D/\s'=s1 |_=>False) (λ_ _=>False) s1:=by
  intro s1 hs1
  subst hs1
  unfold «object.__getattribute__» bindTo
  repeat (any_goals (first |with_reducible refine wpAny_call (EK X L0 mo ?_) |lk))
  exact⟨rfl,rfl⟩
 unfold argsOk at ha
 have sg2:∀sig,Manifest.signature? "BaseException.__getattribute__" =some sig->Bind.checkArgs "BaseException.__getattribute__" sig {pos:=[Value.ref x,Value.str (Str.ofString "__class__") t]}=pure ():=λsig e=>by
  rw[e] at ha
  exact ha
 have Y7:∀{P:Unit->Shared->Prop}{E':Value->Shared->Prop}{s1:Shared},P () s1->wpAny (model prog w) A.in1 (match Manifest.signature? "BaseException.__getattribute__" with |some sig=>Bind.checkArgs "BaseException.__getattribute__" sig {pos:=[Value.ref x]++[Value.str (Str.ofString "__class__") t]} |_=>pure ()) P E' s1:=fun {P E' s1} p=>by
  split
  ·rename_i sig e
   rw[show[Value.ref x]++[Value.str (Str.ofString "__class__") t]=[Value.ref x,Value.str (Str.ofString "__class__") t] from rfl,sg2 sig e]
   exact wpAny_pure p
  ·exact wpAny_pure p
 refine Y7 ?_
 refine wpAny_mono (fin _ rfl) (λfi s' z=>?_) λ_ _ z=>z.elim
 rcases fi with(_ |_ |_ |v) |_
 all_goals first |exact z.elim |skip
 obtain⟨rfl,rfl⟩:=z
 exact handed_on rfl (wpAny_pure h)
theorem Ba (hA:erA K D=true):KitX K (.ref x) (.ref D) (λh=>∃ o,h.get? x=some o/\o.cls= .ref D) where
 ty:=λ_ _ _ ⟨o,ho,hc⟩=>hc▸(Looks.ld ho).andThen .now
 it:=λ_ _ X _=>by
  unfold erA at hA
  simp only[Bool.and_eq_true] at hA
  have z0:=hA.1.2
  unfold clsIn at z0
  split at z0
  ·rename_i ho
   intro A' Q' E' s' k q
   unfold isType loadHead
   exact wpAny_bind (wpAny_loadPart (k _ _ (X _ _ ho)) (wpAny_pure q))
  ·cases z0
 ne:=λh tp dd its n sl X htp=>by
  unfold erA at hA
  simp only[Bool.and_eq_true] at hA
  have z0:=hA.1.2
  refine Bool.eq_false_iff.mpr λq=>?_
  have e:D=tp:=Value.ref.inj (beq_iff_eq.mp q)
  subst e
  unfold clsIn at z0
  split at z0
  ·rename_i ho
   cases(X _ _ ho).symm.trans htp
  ·cases z0
 ca:=λX I k=>DK X I hA k
end
theorem DG {X:Cx}{x:Str}{v:V}{pos:Pos}(h:∃u,X.mg x=some u/\XW v u)(hg:Gl X x)(hd:(x==("__debug__":Str))=false:=by decide):PE X (.Name x pos) (tC v):=by
 obtain⟨u,hm,r⟩:=h
 exact Ud hg hm r hd
theorem PS.nox {X:Cx}{st:Stmt}{t:TS}(h:PS X.nox st t):PS X st t:=λpins s σ H D I hw=>
 wpAny_mono (h pins s σ H D (I.wish _) hw) (λ_ _ q=>q.unwish) λ_ _ z=>False.elim z
theorem Uw {X:Cx}{a C:Addr}{o:Obj}{pn:List (Addr×Obj)}(hpn:X.pn=pn)(hp:(a,o)∈pn)(hc:o.cls= .ref C){K:Frag}(hK:X.K=K):ZJ X (.builtin "isinstance") (MD K (.ref C) a):=by
 subst hpn hK
 intro pins s σ H xs us Q I r ⟨d,b,C',hC',hA,hxs,hd,hk,q⟩
 cases hC'
 subst hxs
 obtain⟨e,_⟩:=I.pin (a,o) (List.mem_append_left _ hp)
 cases r with
 |cons r1 r2=>
  cases r2 with
  |cons r3 r4=>
   cases r4
   rename_i u1 u2
   obtain rfl:u1=Value.ref a:=r1
   have e2:u2=vOf d:=by
    rcases hd with⟨D,rfl⟩ | ⟨n,rfl⟩
    ·exact r3
    ·exact r3
   subst e2
   exact kia_one (Ba hA) I.kIn ⟨o,e,hc⟩ hk (λz=>nomatch z) λtk=>⟨.bl b,H,I.tok tk,rfl,q⟩
section
variable {K:PySem.W.Frag}{C D:Addr}{b:Bool}
theorem K6 (h1:PySem.W.findIn K (.ref C) "__getattribute__" =some (some (.builtin "BaseException.__getattribute__")))(h2:PySem.W.findIn K (.ref C) "__getattr__" =some none)(h3:PySem.W.findIn K (.ref C) "__class__" =some (some (.builtin "object.__class__")))
  (h6:PySem.W.mroIn K C (.type "object")=some true)(h7:PySem.W.isClsIn K C=true)(h8:PySem.W.mroIn K C (.type "BaseException")=some true)(h4:PySem.W.specialIn K (.builtin "object.__class__") "__get__" =some (some (.builtin "getset_descriptor.__get__")))(h5:PySem.W.takesIn K (.builtin "object.__class__")=some true):erA K C=true:=by
 unfold erA
 unfold PySem.W.isClsIn at h7
 rw[h1,h2,h3,h4,h5,h6,h7,h8]
 rfl
theorem Uu (h:PySem.W.subIn K (.ref C) (.type "ValueError")=some true):PySem.W.kitOne K (.ref C) (.type "ValueError")=some true:=by
 have e:PySem.W.kitOne K (.ref C) (.type "ValueError")=PySem.W.subIn K (.ref C) (.type "ValueError"):=rfl
 rw[e,h]
theorem Z5 (s:PySem.W.subIn K (.ref C) (.ref C)=some true)(h:PySem.W.subIn K (.ref C) (.ref D)=some b)(h7:PySem.W.isClsIn K D=true)(ht:PySem.W.typeIn K (.ref D)=some (.type "type"))(hb:PySem.W.subIn K (.ref D) (.type "BaseException")=some true):
  PySem.W.kitOne K (.ref C) (.ref D)=some b/\PySem.W.exmOne K (.ref C) (.ref D)=some b:=by
 have e:PySem.W.kitCls K (.ref C) (.ref D)=some b:=by
  unfold PySem.W.kitCls
  unfold PySem.W.isClsIn at h7
  dsimp only
  rw[h7,ht,h]
  rfl
 constructor
 ·unfold PySem.W.kitOne
  rw[e]
  split
  ·rename_i q
   have q:=eq_of_beq q
   rw[←q,s] at h
   exact h
  ·rfl
 ·unfold PySem.W.exmOne
  rw[hb,e]
  rfl
end
end L2
namespace L2
open PySem PySem.Spec PyProof.Rows
theorem P3.dropLast {α β γ:Type}{F:α->β->γ->Prop}:∀{l m n},P3 F l m n->P3 F l.dropLast m.dropLast n.dropLast
 |_,_,_, .nil=>.nil
 |_,_,_, .cons _ .nil=>.nil
 |_,_,_, .cons r (.cons q t)=>.cons r (P3.dropLast (.cons q t))
section
variable {α β:Type}{K:PySem.W.Frag}{Er:Exc->Hp->Prop}{S:SC}{OO:List (List Xn)}{σ:St}{Fd:Ends->β->Hp->Prop}[fd:FdOk Fd]{u:TS}
end
section
variable {α β γ δ ε:Type}
noncomputable def rEi (r:Enc α)(q:Enc β):Enc (α ⊕ β):=λK H v a=>match a with
 | .inl a=>r K H v a
 | .inr b=>q K H v b
noncomputable def oEi (o:OE α)(p:OE β):OE (α ⊕ β):=λK H v a C=>match a with
 | .inl a=>o K H v a C
 | .inr b=>p K H v b C
instance {r:Enc α}{q:Enc β}[m:MonoE r][n:MonoE q]:MonoE (rEi r q):=⟨fun {K H H' v a} s h=>by cases a with
 |inl a=>exact m.mono s h
 |inr a=>exact n.mono s h⟩
instance {r:Enc α}{q:Enc β}[m:FlatE r][n:FlatE q]:FlatE (rEi r q):=⟨fun {K H H' v a} s h=>by cases a with
 |inl a=>exact m.flat s h
 |inr a=>exact n.flat s h⟩
instance {r:OE α}{q:OE β}[m:MonoO r][n:MonoO q]:MonoO (oEi r q):=⟨fun {K H H' v a C} s h=>by cases a with
 |inl a=>exact m.mono s h
 |inr a=>exact n.mono s h⟩
instance {r:OE α}{q:OE β}[m:FlatO r][n:FlatO q]:FlatO (oEi r q):=⟨fun {K H H' v a C} s h=>by cases a with
 |inl a=>exact m.flat s h
 |inr a=>exact n.flat s h⟩
instance {r:OE α}{q:OE β}{t:Enc α}{u:Enc β}[m:FrzC r t][n:FrzC q u]:FrzC (oEi r q) (rEi t u):=⟨fun {K H H' v a C} h s hc=>by cases a with
 |inl a=>exact m.frz h s hc
 |inr a=>exact n.frz h s hc⟩
inductive Kd where
 |non |bl |int |str |lst |tup
noncomputable def KdV (s:Shared)(v:Value):Kd->Prop
 | .non=>v= .none
 | .bl=>∃ b,v= .bool b
 | .int=>∃ i t,v= .int i t
 | .str=>∃ x t,v= .str x t
 | .lst=>∃ l items,v= .ref l/\s.heap.IsList l items
 | .tup=>∃ l items,v= .ref l/\s.heap.IsTuple l items
noncomputable def KdX (K:PySem.W.Frag)(H:Hp)(x:V):Kd->Prop
 | .non=>x= .non
 | .bl=>∃ b,x= .bl b
 | .int=>∃ i,x= .int i
 | .str=>∃ i,x= .str i
 | .lst=>∃ a xs,x= .ref a/\SqL K H a xs
 | .tup=>∃ a xs,x= .ref a/\SqT K H a xs
noncomputable def Kd.dis:Kd->Kd->Bool
 | .non, .bl=>true
 | .non, .int=>true
 | .non, .str=>true
 | .non, .lst=>true
 | .non, .tup=>true
 | .bl, .non=>true
 | .bl, .str=>true
 | .bl, .lst=>true
 | .bl, .tup=>true
 | .int, .non=>true
 | .int, .str=>true
 | .int, .lst=>true
 | .int, .tup=>true
 | .str, .non=>true
 | .str, .bl=>true
 | .str, .int=>true
 | .str, .lst=>true
 | .str, .tup=>true
 | .lst, .non=>true
 | .lst, .bl=>true
 | .lst, .int=>true
 | .lst, .str=>true
 | .lst, .tup=>true
 | .tup, .non=>true
 | .tup, .bl=>true
 | .tup, .int=>true
 | .tup, .str=>true
 | .tup, .lst=>true
 |_,_=>false
theorem kdV {X:Cx}{pins:List (Addr×Obj)}{σ:St}{H:Hp}{s:Shared}{x:V}{v:Value}(I:Inv X pins σ H s)(rx:XW x v):∀{k:Kd},KdX X.K H x k->KdV s v k
 | .non,h=>by cases(show x= .non from h);cases rx;rfl
 | .bl,⟨b,h⟩=>by subst h;cases rx;exact⟨b,rfl⟩
 | .int,⟨b,h⟩=>by subst h;obtain⟨t,rfl⟩:=rx;exact⟨b,t,rfl⟩
 | .str,⟨b,h⟩=>by subst h;obtain⟨t,rfl⟩:=rx;exact⟨b,t,rfl⟩
 | .lst,⟨a,xs,h,q⟩=>by
  subst h;cases rx
  obtain⟨its,r1,l1,_⟩:=I.list q
  exact⟨a,_,rfl,l1.isList⟩
 | .tup,⟨a,xs,h,q⟩=>by
  subst h;cases rx
  obtain⟨its,r1,l1,_⟩:=I.tuple q
  exact⟨a,_,rfl,l1⟩
theorem Mt {X:Cx}{pins:List (Addr×Obj)}{σ:St}{H:Hp}{s:Shared}{x:V}(I:Inv X pins σ H s):∀{j k:Kd},j.dis k=true->KdX X.K H x j->KdX X.K H x k->False
 | .non, .bl,_,h1,h2=>by
  have e1:x= .non:=h1
  obtain⟨b2,e2⟩:=h2
  rw[e1] at e2;cases e2
 | .non, .int,_,h1,h2=>by
  have e1:x= .non:=h1
  obtain⟨b2,e2⟩:=h2
  rw[e1] at e2;cases e2
 | .non, .str,_,h1,h2=>by
  have e1:x= .non:=h1
  obtain⟨b2,e2⟩:=h2
  rw[e1] at e2;cases e2
 | .non, .lst,_,h1,h2=>by
  have e1:x= .non:=h1
  obtain⟨a2,xs2,e2,q2⟩:=h2
  rw[e1] at e2;cases e2
 | .non, .tup,_,h1,h2=>by
  have e1:x= .non:=h1
  obtain⟨a2,xs2,e2,q2⟩:=h2
  rw[e1] at e2;cases e2
 | .bl, .non,_,h1,h2=>by
  obtain⟨b1,e1⟩:=h1
  have e2:x= .non:=h2
  rw[e1] at e2;cases e2
 | .bl, .str,_,h1,h2=>by
  obtain⟨b1,e1⟩:=h1
  obtain⟨b2,e2⟩:=h2
  rw[e1] at e2;cases e2
 | .bl, .lst,_,h1,h2=>by
  obtain⟨b1,e1⟩:=h1
  obtain⟨a2,xs2,e2,q2⟩:=h2
  rw[e1] at e2;cases e2
 | .bl, .tup,_,h1,h2=>by
  obtain⟨b1,e1⟩:=h1
  obtain⟨a2,xs2,e2,q2⟩:=h2
  rw[e1] at e2;cases e2
 | .int, .non,_,h1,h2=>by
  obtain⟨b1,e1⟩:=h1
  have e2:x= .non:=h2
  rw[e1] at e2;cases e2
 | .int, .str,_,h1,h2=>by
  obtain⟨b1,e1⟩:=h1
  obtain⟨b2,e2⟩:=h2
  rw[e1] at e2;cases e2
 | .int, .lst,_,h1,h2=>by
  obtain⟨b1,e1⟩:=h1
  obtain⟨a2,xs2,e2,q2⟩:=h2
  rw[e1] at e2;cases e2
 | .int, .tup,_,h1,h2=>by
  obtain⟨b1,e1⟩:=h1
  obtain⟨a2,xs2,e2,q2⟩:=h2
  rw[e1] at e2;cases e2
 | .str, .non,_,h1,h2=>by
  obtain⟨b1,e1⟩:=h1
  have e2:x= .non:=h2
  rw[e1] at e2;cases e2
 | .str, .bl,_,h1,h2=>by
  obtain⟨b1,e1⟩:=h1
  obtain⟨b2,e2⟩:=h2
  rw[e1] at e2;cases e2
 | .str, .int,_,h1,h2=>by
  obtain⟨b1,e1⟩:=h1
  obtain⟨b2,e2⟩:=h2
  rw[e1] at e2;cases e2
 | .str, .lst,_,h1,h2=>by
  obtain⟨b1,e1⟩:=h1
  obtain⟨a2,xs2,e2,q2⟩:=h2
  rw[e1] at e2;cases e2
 | .str, .tup,_,h1,h2=>by
  obtain⟨b1,e1⟩:=h1
  obtain⟨a2,xs2,e2,q2⟩:=h2
  rw[e1] at e2;cases e2
 | .lst, .non,_,h1,h2=>by
  obtain⟨a1,xs1,e1,q1⟩:=h1
  have e2:x= .non:=h2
  rw[e1] at e2;cases e2
 | .lst, .bl,_,h1,h2=>by
  obtain⟨a1,xs1,e1,q1⟩:=h1
  obtain⟨b2,e2⟩:=h2
  rw[e1] at e2;cases e2
 | .lst, .int,_,h1,h2=>by
  obtain⟨a1,xs1,e1,q1⟩:=h1
  obtain⟨b2,e2⟩:=h2
  rw[e1] at e2;cases e2
 | .lst, .str,_,h1,h2=>by
  obtain⟨a1,xs1,e1,q1⟩:=h1
  obtain⟨b2,e2⟩:=h2
  rw[e1] at e2;cases e2
 | .lst, .tup,_,h1,h2=>by
  obtain⟨a1,xs1,e1,q1⟩:=h1
  obtain⟨a2,xs2,e2,q2⟩:=h2
  rw[e1] at e2;cases e2
  obtain⟨i1,_,l1,_⟩:=I.list q1
  obtain⟨i2,_,l2,_⟩:=I.tuple q2
  exact SeqAt.ne_of_list_tuple l1.isList l2 rfl
 | .tup, .non,_,h1,h2=>by
  obtain⟨a1,xs1,e1,q1⟩:=h1
  have e2:x= .non:=h2
  rw[e1] at e2;cases e2
 | .tup, .bl,_,h1,h2=>by
  obtain⟨a1,xs1,e1,q1⟩:=h1
  obtain⟨b2,e2⟩:=h2
  rw[e1] at e2;cases e2
 | .tup, .int,_,h1,h2=>by
  obtain⟨a1,xs1,e1,q1⟩:=h1
  obtain⟨b2,e2⟩:=h2
  rw[e1] at e2;cases e2
 | .tup, .str,_,h1,h2=>by
  obtain⟨a1,xs1,e1,q1⟩:=h1
  obtain⟨b2,e2⟩:=h2
  rw[e1] at e2;cases e2
 | .tup, .lst,_,h1,h2=>by
  obtain⟨a1,xs1,e1,q1⟩:=h1
  obtain⟨a2,xs2,e2,q2⟩:=h2
  rw[e1] at e2;cases e2
  obtain⟨i1,_,l1,_⟩:=I.list q2
  obtain⟨i2,_,l2,_⟩:=I.tuple q1
  exact SeqAt.ne_of_list_tuple l1.isList l2 rfl
 | .non, .non,h,_,_=>absurd h Bool.false_ne_true
 | .bl, .bl,h,_,_=>absurd h Bool.false_ne_true
 | .bl, .int,h,_,_=>absurd h Bool.false_ne_true
 | .int, .bl,h,_,_=>absurd h Bool.false_ne_true
 | .int, .int,h,_,_=>absurd h Bool.false_ne_true
 | .str, .str,h,_,_=>absurd h Bool.false_ne_true
 | .lst, .lst,h,_,_=>absurd h Bool.false_ne_true
 | .tup, .tup,h,_,_=>absurd h Bool.false_ne_true
theorem Lm {s:Shared}{A:Around}{v u:Value}(hu:A.units<cLine):∀{j k:Kd},j.dis k=true->KdV s v j->KdV s u k->SeqAt.EqAt A s v u false/\SeqAt.RcAt A s v u false/\SeqAt.RcNeAt A s v u true
 | .non, .non,h,_,_=>absurd h Bool.false_ne_true
 | .non, .bl,_,h1,h2=>by
  cases(show _=Value.none from h1)
  obtain⟨b2,rfl⟩:=h2
  exact⟨SeqAt.EqAt.none_bool b2,SeqAt.RcAt.none_bool b2,SeqAt.RcNeAt.none_bool b2⟩
 | .non, .int,_,h1,h2=>by
  cases(show _=Value.none from h1)
  obtain⟨i2,t2,rfl⟩:=h2
  exact⟨SeqAt.EqAt.none_int i2 t2,SeqAt.RcAt.none_int i2 t2,SeqAt.RcNeAt.none_int i2 t2⟩
 | .non, .str,_,h1,h2=>by
  cases(show _=Value.none from h1)
  obtain⟨i2,t2,rfl⟩:=h2
  exact⟨SeqAt.EqAt.none_str i2 t2,SeqAt.RcAt.none_str i2 t2,SeqAt.RcNeAt.none_str i2 t2⟩
 | .non, .lst,_,h1,h2=>by
  cases(show _=Value.none from h1)
  obtain⟨l2,is2,rfl,q2⟩:=h2
  exact⟨SeqAt.EqAt.none_list q2 hu,SeqAt.RcAt.none_list q2 hu,SeqAt.RcNeAt.none_list q2 hu⟩
 | .non, .tup,_,h1,h2=>by
  cases(show _=Value.none from h1)
  obtain⟨l2,is2,rfl,q2⟩:=h2
  exact⟨SeqAt.EqAt.none_tuple q2 hu,SeqAt.RcAt.none_tuple q2 hu,SeqAt.RcNeAt.none_tuple q2 hu⟩
 | .bl, .non,_,h1,h2=>by
  obtain⟨b1,rfl⟩:=h1
  cases(show _=Value.none from h2)
  exact⟨SeqAt.EqAt.bool_none b1,SeqAt.RcAt.bool_none b1,SeqAt.RcNeAt.bool_none b1⟩
 | .bl, .bl,h,_,_=>absurd h Bool.false_ne_true
 | .bl, .int,h,_,_=>absurd h Bool.false_ne_true
 | .bl, .str,_,h1,h2=>by
  obtain⟨b1,rfl⟩:=h1
  obtain⟨i2,t2,rfl⟩:=h2
  exact⟨SeqAt.EqAt.bool_str b1 i2 t2,SeqAt.RcAt.bool_str b1 i2 t2,SeqAt.RcNeAt.bool_str b1 i2 t2⟩
 | .bl, .lst,_,h1,h2=>by
  obtain⟨b1,rfl⟩:=h1
  obtain⟨l2,is2,rfl,q2⟩:=h2
  exact⟨SeqAt.EqAt.bool_list b1 q2 hu,SeqAt.RcAt.bool_list b1 q2 hu,SeqAt.RcNeAt.bool_list b1 q2 hu⟩
 | .bl, .tup,_,h1,h2=>by
  obtain⟨b1,rfl⟩:=h1
  obtain⟨l2,is2,rfl,q2⟩:=h2
  exact⟨SeqAt.EqAt.bool_tuple b1 q2 hu,SeqAt.RcAt.bool_tuple b1 q2 hu,SeqAt.RcNeAt.bool_tuple b1 q2 hu⟩
 | .int, .non,_,h1,h2=>by
  obtain⟨i1,t1,rfl⟩:=h1
  cases(show _=Value.none from h2)
  exact⟨SeqAt.EqAt.int_none i1 t1,SeqAt.RcAt.int_none i1 t1,SeqAt.RcNeAt.int_none i1 t1⟩
 | .int, .bl,h,_,_=>absurd h Bool.false_ne_true
 | .int, .int,h,_,_=>absurd h Bool.false_ne_true
 | .int, .str,_,h1,h2=>by
  obtain⟨i1,t1,rfl⟩:=h1
  obtain⟨i2,t2,rfl⟩:=h2
  exact⟨SeqAt.EqAt.int_str i1 t1 i2 t2,SeqAt.RcAt.int_str i1 t1 i2 t2,SeqAt.RcNeAt.int_str i1 t1 i2 t2⟩
 | .int, .lst,_,h1,h2=>by
  obtain⟨i1,t1,rfl⟩:=h1
  obtain⟨l2,is2,rfl,q2⟩:=h2
  exact⟨SeqAt.EqAt.int_list i1 t1 q2 hu,SeqAt.RcAt.int_list i1 t1 q2 hu,SeqAt.RcNeAt.int_list i1 t1 q2 hu⟩
 | .int, .tup,_,h1,h2=>by
  obtain⟨i1,t1,rfl⟩:=h1
  obtain⟨l2,is2,rfl,q2⟩:=h2
  exact⟨SeqAt.EqAt.int_tuple i1 t1 q2 hu,SeqAt.RcAt.int_tuple i1 t1 q2 hu,SeqAt.RcNeAt.int_tuple i1 t1 q2 hu⟩
 | .str, .non,_,h1,h2=>by
  obtain⟨i1,t1,rfl⟩:=h1
  cases(show _=Value.none from h2)
  exact⟨SeqAt.EqAt.str_none i1 t1,SeqAt.RcAt.str_none i1 t1,SeqAt.RcNeAt.str_none i1 t1⟩
 | .str, .bl,_,h1,h2=>by
  obtain⟨i1,t1,rfl⟩:=h1
  obtain⟨b2,rfl⟩:=h2
  exact⟨SeqAt.EqAt.str_bool i1 t1 b2,SeqAt.RcAt.str_bool i1 t1 b2,SeqAt.RcNeAt.str_bool i1 t1 b2⟩
 | .str, .int,_,h1,h2=>by
  obtain⟨i1,t1,rfl⟩:=h1
  obtain⟨i2,t2,rfl⟩:=h2
  exact⟨SeqAt.EqAt.str_int i1 t1 i2 t2,SeqAt.RcAt.str_int i1 t1 i2 t2,SeqAt.RcNeAt.str_int i1 t1 i2 t2⟩
 | .str, .str,h,_,_=>absurd h Bool.false_ne_true
 | .str, .lst,_,h1,h2=>by
  obtain⟨i1,t1,rfl⟩:=h1
  obtain⟨l2,is2,rfl,q2⟩:=h2
  exact⟨SeqAt.EqAt.str_list i1 t1 q2 hu,SeqAt.RcAt.str_list i1 t1 q2 hu,SeqAt.RcNeAt.str_list i1 t1 q2 hu⟩
 | .str, .tup,_,h1,h2=>by
  obtain⟨i1,t1,rfl⟩:=h1
  obtain⟨l2,is2,rfl,q2⟩:=h2
  exact⟨SeqAt.EqAt.str_tuple i1 t1 q2 hu,SeqAt.RcAt.str_tuple i1 t1 q2 hu,SeqAt.RcNeAt.str_tuple i1 t1 q2 hu⟩
 | .lst, .non,_,h1,h2=>by
  obtain⟨l1,is1,rfl,q1⟩:=h1
  cases(show _=Value.none from h2)
  exact⟨SeqAt.EqAt.list_none q1 hu,SeqAt.RcAt.list_none q1 hu,SeqAt.RcNeAt.list_none q1 hu⟩
 | .lst, .bl,_,h1,h2=>by
  obtain⟨l1,is1,rfl,q1⟩:=h1
  obtain⟨b2,rfl⟩:=h2
  exact⟨SeqAt.EqAt.list_bool b2 q1 hu,SeqAt.RcAt.list_bool b2 q1 hu,SeqAt.RcNeAt.list_bool b2 q1 hu⟩
 | .lst, .int,_,h1,h2=>by
  obtain⟨l1,is1,rfl,q1⟩:=h1
  obtain⟨i2,t2,rfl⟩:=h2
  exact⟨SeqAt.EqAt.list_int i2 t2 q1 hu,SeqAt.RcAt.list_int i2 t2 q1 hu,SeqAt.RcNeAt.list_int i2 t2 q1 hu⟩
 | .lst, .str,_,h1,h2=>by
  obtain⟨l1,is1,rfl,q1⟩:=h1
  obtain⟨i2,t2,rfl⟩:=h2
  exact⟨SeqAt.EqAt.list_str i2 t2 q1 hu,SeqAt.RcAt.list_str i2 t2 q1 hu,SeqAt.RcNeAt.list_str i2 t2 q1 hu⟩
 | .lst, .lst,h,_,_=>absurd h Bool.false_ne_true
 | .lst, .tup,_,h1,h2=>by
  obtain⟨l1,is1,rfl,q1⟩:=h1
  obtain⟨l2,is2,rfl,q2⟩:=h2
  exact⟨SeqAt.EqAt.of_refs (SeqAt.ne_of_list_tuple q1 q2) (SeqAt.RcAt.list_tuple q1 q2 hu),SeqAt.RcAt.list_tuple q1 q2 hu,SeqAt.RcNeAt.list_tuple q1 q2 hu⟩
 | .tup, .non,_,h1,h2=>by
  obtain⟨l1,is1,rfl,q1⟩:=h1
  cases(show _=Value.none from h2)
  exact⟨SeqAt.EqAt.tuple_none q1 hu,SeqAt.RcAt.tuple_none q1 hu,SeqAt.RcNeAt.tuple_none q1 hu⟩
 | .tup, .bl,_,h1,h2=>by
  obtain⟨l1,is1,rfl,q1⟩:=h1
  obtain⟨b2,rfl⟩:=h2
  exact⟨SeqAt.EqAt.tuple_bool b2 q1 hu,SeqAt.RcAt.tuple_bool b2 q1 hu,SeqAt.RcNeAt.tuple_bool b2 q1 hu⟩
 | .tup, .int,_,h1,h2=>by
  obtain⟨l1,is1,rfl,q1⟩:=h1
  obtain⟨i2,t2,rfl⟩:=h2
  exact⟨SeqAt.EqAt.tuple_int i2 t2 q1 hu,SeqAt.RcAt.tuple_int i2 t2 q1 hu,SeqAt.RcNeAt.tuple_int i2 t2 q1 hu⟩
 | .tup, .str,_,h1,h2=>by
  obtain⟨l1,is1,rfl,q1⟩:=h1
  obtain⟨i2,t2,rfl⟩:=h2
  exact⟨SeqAt.EqAt.tuple_str i2 t2 q1 hu,SeqAt.RcAt.tuple_str i2 t2 q1 hu,SeqAt.RcNeAt.tuple_str i2 t2 q1 hu⟩
 | .tup, .lst,_,h1,h2=>by
  obtain⟨l1,is1,rfl,q1⟩:=h1
  obtain⟨l2,is2,rfl,q2⟩:=h2
  exact⟨SeqAt.EqAt.of_refs (λe=>SeqAt.ne_of_list_tuple q2 q1 e.symm) (SeqAt.RcAt.tuple_list q1 q2 hu),SeqAt.RcAt.tuple_list q1 q2 hu,SeqAt.RcNeAt.tuple_list q1 q2 hu⟩
 | .tup, .tup,h,_,_=>absurd h Bool.false_ne_true
class KdE (r:Enc α)(k:outParam Kd):Prop where
 to:∀{K:PySem.W.Frag}{H:Hp}{x:V}{a:α},r K H x a->KdX K H x k
instance:KdE Xb .int:=⟨λh=>⟨_,h⟩⟩
instance:KdE Xl .bl:=⟨λh=>⟨_,h⟩⟩
instance:KdE Xt .str:=⟨λh=>⟨_,h⟩⟩
instance {r:Enc α}:KdE (rV r) .lst:=⟨λr9=>by obtain⟨a,xs,e,q,_⟩:=r9;exact⟨a,xs,e,SqL.of q⟩⟩
instance {r:Enc α}:KdE (rPL r) .tup:=⟨λr9=>by obtain⟨a,xs,e,q,_⟩:=r9;exact⟨a,xs,e,SqT.of q⟩⟩
instance {r:Enc α}{q:Enc β}:KdE (rP2 r q) .tup:=⟨λr9=>by obtain⟨a,x,y,e,q,_⟩:=r9;exact⟨a,_,e,SqT.of q⟩⟩
instance {r:Enc α}{q:Enc β}{t:Enc γ}:KdE (rP3 r q t) .tup:=⟨λr9=>by obtain⟨a,x,y,z,e,q,_⟩:=r9;exact⟨a,_,e,SqT.of q⟩⟩
structure Crs (r:Enc α)(q:Enc β)(d:Nat):Prop where
 no:∀{X:Cx}{pins:List (Addr×Obj)}{σ:St}{H:Hp}{s:Shared}{x:V}{a:α}{b:β},Inv X pins σ H s->r X.K H x a->q X.K H x b->False
 lr:∀{X:Cx}{pins:List (Addr×Obj)}{σ:St}{H:Hp}{s:Shared}{x y:V}{v u:Value}{a:α}{b:β}{A:Around},Inv X pins σ H s->XW x v->XW y u->r X.K H x a->q X.K H y b->A.units+d<cLine->SeqAt.EqAt A s v u false/\SeqAt.RcAt A s v u false/\SeqAt.RcNeAt A s v u true
 rl:∀{X:Cx}{pins:List (Addr×Obj)}{σ:St}{H:Hp}{s:Shared}{x y:V}{v u:Value}{a:α}{b:β}{A:Around},Inv X pins σ H s->XW x v->XW y u->q X.K H x b->r X.K H y a->A.units+d<cLine->SeqAt.EqAt A s v u false/\SeqAt.RcAt A s v u false/\SeqAt.RcNeAt A s v u true
theorem Crs.up {r:Enc α}{q:Enc β}{d e:Nat}(c:Crs r q d)(h:d<=e):Crs r q e:=⟨c.no,λI rx ry h1 h2 hu=>c.lr I rx ry h1 h2 (by omega),λI rx ry h1 h2 hu=>c.rl I rx ry h1 h2 (by omega)⟩
theorem Lr {r:Enc α}{q:Enc β}{j k:Kd}[m:KdE r j][n:KdE q k](h:j.dis k=true)(h':k.dis j=true):Crs r q 0:=
 ⟨λI h1 h2=>Mt I h (m.to h1) (n.to h2),λI rx ry h1 h2 hu=>Lm (by omega) h (kdV I rx (m.to h1)) (kdV I ry (n.to h2)),λI rx ry h1 h2 hu=>Lm (by omega) h' (kdV I rx (n.to h1)) (kdV I ry (m.to h2))⟩
theorem Ix [DecidableEq α][DecidableEq β]{r:Enc α}{q:Enc β}{d:Nat}[m:MonoE r][n:MonoE q](E:EqOk r d)(F:EqOk q d)(c:Crs r q d):EqOk (rEi r q) d where
 uniq:=fun {X pins σ H s x a b} I h1 h2=>by
  cases a with
  |inl a=>cases b with
   |inl b=>rw[E.uniq I h1 h2]
   |inr b=>exact(c.no I h1 h2).elim
  |inr a=>cases b with
   |inl b=>exact(c.no I h2 h1).elim
   |inr b=>rw[F.uniq I h1 h2]
 eq:=fun {X pins σ H s x y v u a b A} I rx ry h1 h2 hu=>by
  cases a with
  |inl a=>cases b with
   |inl b=>have:=E.eq I rx ry h1 h2 hu;simpa using this
   |inr b=>have:=(c.lr I rx ry h1 h2 hu).1;simpa using this
  |inr a=>cases b with
   |inl b=>have:=(c.rl I rx ry h1 h2 hu).1;simpa using this
   |inr b=>have:=F.eq I rx ry h1 h2 hu;simpa using this
 rc:=fun {X pins σ H s x y v u a b A} I rx ry h1 h2 hu=>by
  cases a with
  |inl a=>cases b with
   |inl b=>have:=E.rc I rx ry h1 h2 hu;simpa using this
   |inr b=>have:=(c.lr I rx ry h1 h2 hu).2.1;simpa using this
  |inr a=>cases b with
   |inl b=>have:=(c.rl I rx ry h1 h2 hu).2.1;simpa using this
   |inr b=>have:=F.rc I rx ry h1 h2 hu;simpa using this
 ne:=fun {X pins σ H s x y v u a b A} I rx ry h1 h2 hu=>by
  cases a with
  |inl a=>cases b with
   |inl b=>have:=E.ne I rx ry h1 h2 hu;simpa using this
   |inr b=>have:=(c.lr I rx ry h1 h2 hu).2.2;simpa using this
  |inr a=>cases b with
   |inl b=>have:=(c.rl I rx ry h1 h2 hu).2.2;simpa using this
   |inr b=>have:=F.ne I rx ry h1 h2 hu;simpa using this
 keep:=λs q=>MonoE.mono s q
theorem EN {a b:Str}:(a==b)=decide (a=b):=by rw[Bool.eq_iff_iff];simp
theorem HQ:EqOk Xt 0 where
 uniq:=λ_ h1 h2=>by
  have h1':_=V.str _:=h1
  have h2':_=V.str _:=h2
  rw[h1'] at h2';injection h2'
 eq:=fun {X pins σ H s x y v u a b A} I rx ry h1 h2 _=>by
  have h1':x=V.str a:=h1
  have h2':y=V.str b:=h2
  subst h1' h2'
  obtain⟨t,rfl⟩:=rx
  obtain⟨t',rfl⟩:=ry
  rw[←EN];exact SeqAt.EqAt.str_str a t b t'
 rc:=fun {X pins σ H s x y v u a b A} I rx ry h1 h2 _=>by
  have h1':x=V.str a:=h1
  have h2':y=V.str b:=h2
  subst h1' h2'
  obtain⟨t,rfl⟩:=rx
  obtain⟨t',rfl⟩:=ry
  rw[←EN];exact SeqAt.RcAt.str_str a t b t'
 ne:=fun {X pins σ H s x y v u a b A} I rx ry h1 h2 _=>by
  have h1':x=V.str a:=h1
  have h2':y=V.str b:=h2
  subst h1' h2'
  obtain⟨t,rfl⟩:=rx
  obtain⟨t',rfl⟩:=ry
  rw[←EN];exact SeqAt.RcNeAt.str_str a t b t'
 keep:=λ_ h=>h
theorem E6 {a b:Bool}:(a==b)=decide (a=b):=by rw[Bool.eq_iff_iff];simp
theorem Mn:EqOk Xl 0 where
 uniq:=λ_ h1 h2=>by
  have h1':_=V.bl _:=h1
  have h2':_=V.bl _:=h2
  rw[h1'] at h2';injection h2'
 eq:=fun {X pins σ H s x y v u a b A} I rx ry h1 h2 _=>by
  have h1':x=V.bl a:=h1
  have h2':y=V.bl b:=h2
  subst h1' h2'
  cases rx;cases ry
  rw[←E6];exact SeqAt.EqAt.bool_bool a b
 rc:=fun {X pins σ H s x y v u a b A} I rx ry h1 h2 _=>by
  have h1':x=V.bl a:=h1
  have h2':y=V.bl b:=h2
  subst h1' h2'
  cases rx;cases ry
  rw[←E6];exact SeqAt.RcAt.bool_bool a b
 ne:=fun {X pins σ H s x y v u a b A} I rx ry h1 h2 _=>by
  have h1':x=V.bl a:=h1
  have h2':y=V.bl b:=h2
  subst h1' h2'
  cases rx;cases ry
  rw[←E6];exact SeqAt.RcNeAt.bool_bool a b
 keep:=λ_ h=>h
theorem Iq [DecidableEq α]{r:Enc α}{r1:Enc β}{q1:Enc δ}{d:Nat}(E:EqOk r d)(c:Crs r1 q1 d):Crs (rP2 r r1) (rP2 r q1) (d+1):=by
 refine⟨λI ⟨a,x,y,e,q,_,h⟩ ⟨b,x',y',e',q',_,h'⟩=>?_,?_,?_⟩
 ·rw[e] at e';cases e'
  cases I.tuple_inj (SqT.of q) (SqT.of q')
  exact c.no I h h'
 ·rintro X pins σ H s x y v u ⟨a1,a2⟩ ⟨b1,b2⟩ A I rx ry ⟨a,x1,x2,rfl,q,p1,p2⟩ ⟨b,y1,y2,rfl,q',p4,p5⟩ hu
  cases rx;cases ry
  have hne:a≠b:=λe=>by
   subst e
   cases I.tuple_inj (SqT.of q) (SqT.of q')
   exact c.no I p2 p5
  obtain⟨i1,z1,l1,_⟩:=I.tuple (SqT.of q)
  obtain⟨i2,z2,l2,_⟩:=I.tuple (SqT.of q')
  obtain⟨u1,u2,rfl,e1,e2⟩:=XR.two z1
  obtain⟨w1,w2,rfl,g1,g2⟩:=XR.two z2
  have it:∀j (h1:j< [u1,u2].toArray.size) (h2:j< [w1,w2].toArray.size),SeqAt.EqAt A.in1 s [u1,u2].toArray[j] [w1,w2].toArray[j] ((λj=>if j=0 then decide (a1=b1) else false) j):=by
   intro j h1 h2
   have hj:j=0∨j=1:=by
    have h1':j<2:=h2
    omega
   rcases hj with rfl |rfl
   ·exact E.eq (A:=A.in1) I e1 g1 p1 p4 (by rw[YH];omega)
   ·exact(c.lr (A:=A.in1) I e2 g2 p2 p5 (by rw[YH];omega)).1
  have R:=SeqAt.RcAt.tuples (A:=A) l1 l2 (by omega) it
  have N:=SeqAt.RcNeAt.tuples (A:=A) l1 l2 (by omega) it
  have R':SeqAt.RcAt A s (.ref a) (.ref b) false:=by simpa[List.range_succ] using R
  exact⟨SeqAt.EqAt.of_refs hne R',R',by simpa[List.range_succ] using N⟩
 ·rintro X pins σ H s x y v u ⟨a1,a2⟩ ⟨b1,b2⟩ A I rx ry ⟨b,y1,y2,rfl,q',p4,p5⟩ ⟨a,x1,x2,rfl,q,p1,p2⟩ hu
  cases rx;cases ry
  have hne:b≠a:=λe=>by
   subst e
   cases I.tuple_inj (SqT.of q) (SqT.of q')
   exact c.no I p2 p5
  obtain⟨i1,z1,l1,_⟩:=I.tuple (SqT.of q)
  obtain⟨i2,z2,l2,_⟩:=I.tuple (SqT.of q')
  obtain⟨u1,u2,rfl,e1,e2⟩:=XR.two z1
  obtain⟨w1,w2,rfl,g1,g2⟩:=XR.two z2
  have it:∀j (h1:j< [w1,w2].toArray.size) (h2:j< [u1,u2].toArray.size),SeqAt.EqAt A.in1 s [w1,w2].toArray[j] [u1,u2].toArray[j] ((λj=>if j=0 then decide (b1=a1) else false) j):=by
   intro j h1 h2
   have hj:j=0∨j=1:=by
    have h1':j<2:=h1
    omega
   rcases hj with rfl |rfl
   ·exact E.eq (A:=A.in1) I g1 e1 p4 p1 (by rw[YH];omega)
   ·exact(c.rl (A:=A.in1) I g2 e2 p5 p2 (by rw[YH];omega)).1
  have R:=SeqAt.RcAt.tuples (A:=A) l2 l1 (by omega) it
  have N:=SeqAt.RcNeAt.tuples (A:=A) l2 l1 (by omega) it
  have R':SeqAt.RcAt A s (.ref b) (.ref a) false:=by simpa[List.range_succ] using R
  exact⟨SeqAt.EqAt.of_refs hne R',R',by simpa[List.range_succ] using N⟩
end
section
variable {K:PySem.W.Frag}{Er:Exc->Hp->Prop}{S:SC}{OO OO' OO1 OO2:List (List Xn)}{σ:St}{α β γ ρ ι δ ε ζ:Type}
variable {Fd:Ends->β->Hp->Prop}[fd:FdOk Fd]{u:TS}
theorem Ls {te:TE}{o:OE α}{p:OE γ}{m:Rs α}(he:Ev K Er S OO OO' σ te o m):Ev K Er S OO OO' σ te (oEi o p) (m.bind λa=>.ok (.inl a)):=λH Q w s P=>by
 refine he H Q w s ?_
 cases m with
 |bad=>exact P
 |err x=>exact P
 |ok a=>exact λv C H' s' w' m' ho=>P v C H' s' w' m' ho
theorem IL {te:TE}{o:OE α}{p:OE γ}{m:Rs γ}(he:Ev K Er S OO OO' σ te p m):Ev K Er S OO OO' σ te (oEi o p) (m.bind λa=>.ok (.inr a)):=λH Q w s P=>by
 refine he H Q w s ?_
 cases m with
 |bad=>exact P
 |err x=>exact P
 |ok a=>exact λv C H' s' w' m' ho=>P v C H' s' w' m' ho
theorem HK {te:TE}{o:Enc α}{p:Enc γ}{m:Rs α}(he:EvB K Er S OO σ te o m):EvB K Er S OO σ te (rEi o p) (m.bind λa=>.ok (.inl a)):=λH Q w s P=>by
 refine he H Q w s ?_
 cases m with
 |bad=>exact P
 |err x=>exact P
 |ok a=>exact λv H' s' ho=>P v H' s' ho
noncomputable def getL:α ⊕ γ->Rs α
 | .inl a=>.ok a
 | .inr _=>.bad
noncomputable def getR:α ⊕ γ->Rs γ
 | .inl _=>.bad
 | .inr b=>.ok b
theorem Gj {te:TE}{o:Enc α}{p:Enc γ}{m:Rs (α ⊕ γ)}(he:EvB K Er S OO σ te (rEi o p) m):EvB K Er S OO σ te p (m.bind getR):=λH Q w s P=>by
 refine he H Q w s ?_
 cases m with
 |bad=>exact P
 |err x=>exact P
 |ok a=>cases a with
  |inl a=>exact P.elim
  |inr a=>exact λv H' s' ho=>P v H' s' ho
theorem Hd {o:OE α}{p:OE γ}[MonoO p]{f:γ->Rs β}{v:V}{a:α ⊕ γ}{C:List Xn}(h:∀x,S.p x->oEi o p K x v a C)(hr:∀b,Sv Er (S.addO K p v b C) OO σ u Fd (f b)):Sv Er S OO σ u Fd ((getR a).bind f):=λH D w s P=>by
 cases a with
 |inl a=>exact P.elim
 |inr b=>exact hr b H D w ⟨s,h _ s⟩ P
noncomputable def Im:Enc V:=λ_ H v y=>∃ a x,v= .ref a/\H a=some (.tup [x,y])
instance:FlatE Im:=⟨λs r9=>by obtain⟨a,x,e,h⟩:=r9;exact⟨a,x,e,s _ _ h rfl⟩⟩
theorem Iv {r1:Enc α}{q:OE γ}[MonoO q]{v:V}{m:Rs β}{b:α×γ}{C:List Xn}(h:∀x,S.p x->oT2 (oF r1) q K x v b C)(hr:∀y,Sv Er ((S.add K Im v y).addO K q y b.2 C) OO σ u Fd m):Sv Er S OO σ u Fd m:=λH D w s P=>by
 obtain⟨p,x,y,C1,C2,e,hp,h1,h2,c⟩:=h _ s
 have e1:C1=[]:=h1.1
 subst e1 c
 exact hr y H D w ⟨⟨s,⟨p,x,e,hp⟩⟩,h2⟩ P
theorem Cd {v y:V}(i:Nat)(hσ:σ[i]?=some (some v))(h:∀x,S.p x->Im K x v y):∀(H:Hp) (Q:VK),W OO H->S.p (hid H OO)->Q y H->(tOp (CN K) (Ux i) (tC (.int 1))) σ H Q:=λH Q w s q=>by
 obtain⟨a,x,e,hp⟩:=h _ s
 exact⟨v,hσ,a,_,1,y,e,rfl,SqT.of (Xu _ _ hp),rfl,q⟩
theorem E8 {ta tl:TE}{o:OE α}[MonoO o]{m:Rs α}{f:List α->Rs β}{v:V}{as:List α}{C:List Xn}(k:Nat)(hte:∀(H:Hp) (Q:VK),W OO H->S.p (hid H OO)->Q v H->tl σ H Q)(hk:OO[k]?=some C)(hk':OO'[k]?=some C)(h:∀x,S.p x->oL o K x v as C)(he:Ev K Er S OO OO' σ ta o m)
  (hr:∀a C',Sv Er (S.addO K (oL o) v (as++[a]) C') (OO'.set k C') σ u Fd (f (as++[a]))):Sv Er S OO σ (Q9 (Kw (tBM K "list" QT tl (XT ta ZO))) u) Fd (m.bind λa=>chk (as.length<sizeLine) (f (as++[a]))):=λH D w s P=>by
 obtain⟨p,xs,Cs,e,q,c⟩:=h _ s
 subst c
 have hH:H p=some (.lst xs):=w.tr (p, .lst xs) (List.mem_flatten.mpr ⟨_,List.mem_of_getElem? hk,List.mem_cons_self⟩)
 refine hte _ _ w s ⟨by rw[e];exact .inl ⟨rfl,_,SqL.of hH⟩,he.st w s P λa y D' H' w' s' ho P'=>?_⟩
 obtain⟨p',xs',Cs',e2,q2,c2⟩:=h _ s'
 rw[e] at e2;cases e2
 have c3:(p,HO.lst xs)=(p,HO.lst xs')/\Cs.flatten=Cs'.flatten:=by
  injection c2 with h1 h2
  exact⟨h1,h2⟩
 obtain⟨c3,c4⟩:=c3
 cases c3
 have hH':H' p=some (.lst xs):=w'.tr (p, .lst xs) (by rw[List.flatten_cons];exact List.mem_append_right _ (List.mem_flatten.mpr ⟨_,List.mem_of_getElem? hk',List.mem_cons_self⟩))
 cases hlt:decide (as.length<sizeLine) with
 |false=>rw[chk,if_neg (by simpa using hlt)] at P';exact P'.elim
 |true=>
  have hlt':as.length<sizeLine:=by simpa using hlt
  rw[Xj hlt'] at P'
  have wnd:=w'.nd
  have hcell:∀c∈(p,HO.lst (xs++[y]))::(Cs'++[D']).flatten,upd H' p (.lst (xs++[y])) c.1=some c.2:=λc hc=>by
   rcases List.mem_cons.mp hc with rfl |hc
   ·exact X2
   ·have hp1:=XX hk'
    have w3:W [D'++(((p,HO.lst xs)::Cs.flatten)++(OO'.set k []).flatten)] H':=w'.of (by
     simp only[List.flatten_cons,List.flatten_nil,List.append_nil]
     exact(by simpa using hp1:(((p,HO.lst xs)::Cs.flatten)++(OO'.set k []).flatten).Perm OO'.flatten).append_left D')
    have hin:c∈D'++(((p,HO.lst xs)::Cs.flatten)++(OO'.set k []).flatten):=by
     rw[Yt,List.mem_append] at hc
     rcases hc with hc |hc
     ·rw[←c4] at hc;simp[hc]
     ·simp[hc]
    have hne:c.1≠p:=λee=>by
     have nd3:=w3.nd
     rw[Yt,List.mem_append, ←c4] at hc
     simp only[fl,List.flatten_cons,List.flatten_nil,List.append_nil,List.map_append,List.cons_append,List.map_cons] at nd3
     rw[List.nodup_append] at nd3
     obtain⟨_,n2,n3⟩:=nd3
     rcases hc with hc |hc
     ·exact(List.nodup_cons.mp n2).1 (List.mem_append_left _ (List.mem_map.mpr ⟨c,hc,ee⟩))
     ·exact n3 c.1 (List.mem_map.mpr ⟨c,hc,rfl⟩) p List.mem_cons_self ee
    rw[Xp hne]
    exact w3.tr c (by simpa using hin)
  obtain⟨w4,h4⟩:=MN (C':=(p, .lst (xs++[y]))::(Cs'++[D']).flatten) w' hk' List.mem_cons_self (by simp[Yt,c4]) hcell (λc hc=>by
   rcases List.mem_cons.mp hc with rfl |hc
   ·rfl
   ·rw[Yt,List.mem_append, ←c4] at hc
    rcases hc with hc |hc
    ·exact w'.mu c (by rw[List.flatten_cons];exact List.mem_append_right _ (List.mem_flatten.mpr ⟨_,List.mem_of_getElem? hk',List.mem_cons_of_mem _ hc⟩))
    ·exact w'.mu c (by rw[List.flatten_cons];exact List.mem_append_left _ hc))
  refine⟨p,xs,y,e,rfl,hH',by rw[(P3.len q).1];exact hlt',?_⟩
  refine hr a _ _ D w4 ?_ (by rw[h4];exact P')
  rw[h4]
  exact⟨s',⟨p,xs++[y],Cs'++[D'],e,q2.snoc ho,rfl⟩⟩
theorem F4 {tl:TE}{f:List (List Int)->Rs β}{v:V}{as:List (List Int)}{C:List Xn}(j k:Nat)(n:Int)(hte:∀(H:Hp) (Q:VK),W OO H->S.p (hid H OO)->Q v H->tl σ H Q)(hjl:j<σ.length)(hk:OO[k]?=some C)(h:∀x,S.p x->oL (oL (oF Xb)) K x v as C)
  (hr:∀C' w,Sv Er (S.addO K (oL (oL (oF Xb))) v (as.map (· ++[n])) C') (OO.set k C') (σ.set j w) u Fd (f (as.map (· ++[n])))):
  Sv Er S OO σ (Q9 (LA (BS K tl) (Ql j) (Q9 (Kw (tBM K "list" QT (Ux j) (XT (tC (.int n)) ZO))) GZ)) u) Fd (chk (∀row∈as,row.length<sizeLine) (f (as.map (· ++[n])))):=λH D w s P=>by
 obtain⟨hsz,P⟩:=PZ.chk P
 obtain⟨p,xs,Cs0,e,q,c⟩:=h _ s
 subst c e
 have hkl:k<OO.length:=by
  rcases Nat.lt_or_ge k OO.length with h |h
  ·exact h
  ·rw[List.getElem?_eq_none h] at hk;cases hk
 have hin:∀{Cs:List (List Xn)},(p,HO.lst xs)∈(OO.set k ((p, .lst xs)::Cs.flatten)).flatten:=fun {Cs}=>List.mem_flatten.mpr ⟨_,List.mem_set hkl _,List.mem_cons_self⟩
 have hOO:OO.set k ((p, .lst xs)::Cs0.flatten)=OO:=by
  apply List.ext_getElem?
  intro m
  by_cases hm:m=k
  ·subst hm;rw[List.getElem?_set_self hkl,hk]
  ·rw[List.getElem?_set_ne (λe=>hm e.symm)]
 have hH:H p=some (.lst xs):=w.tr (p, .lst xs) (by rw[←hOO];exact hin)
 refine hte _ _ w s ⟨p,rfl,⟨xs,SqL.of hH⟩,?_⟩
 refine BH (K:=K) (a:=p) (xs:=xs) (λt σ' H'=>∃ Cs wv,σ'=σ.set j wv/\W (OO.set k ((p, .lst xs)::Cs.flatten)) H'/\Xo (hid H OO) (hid H' (OO.set k ((p, .lst xs)::Cs.flatten)))/\P3 (oL (oF Xb) K (hid H' (OO.set k ((p, .lst xs)::Cs.flatten)))) xs ((as.take t).map (· ++[n])++as.drop t) Cs)
  ⟨Cs0,σ[j],by rw[List.set_getElem_self],by rw[hOO];exact w,by rw[hOO];exact Xo.refl _,by rw[hOO];simpa using q⟩
  (λt σ' H' ht r9=>by obtain⟨Cs,wv,_,w',_,_⟩:=r9;exact SqL.of (w'.tr (p, .lst xs) hin)) ?_ ?_
 ·rintro t x σ' H' hx ⟨Cs,wv,rfl,w',m',q'⟩
  have hlen:=q.len.1
  have htl:t<as.length:=by
   rw[←hlen]
   rcases Nat.lt_or_ge t xs.length with h |h
   ·exact h
   ·rw[List.getElem?_eq_none h] at hx;cases hx
  have hrow:((as.take t).map (· ++[n])++as.drop t)[t]?=some as[t]:=by
   rw[List.getElem?_append_right (by simp;omega)]
   simp[Nat.min_eq_left (Nat.le_of_lt htl)]
  obtain⟨q0,ys,g1,g2,g3⟩:=DY q' hrow
  rw[hx] at g1
  cases g1
  have hk':(OO.set k ((p,HO.lst xs)::Cs.flatten))[k]?=some ((p,HO.lst xs)::Cs.flatten):=by simp[hkl]
  have hq0:H' q0=some (.lst ys):=w'.tr (q0, .lst ys) (List.mem_flatten.mpr ⟨_,List.mem_of_getElem? hk',List.mem_cons_of_mem _ (Jb g2 _ (by simp))⟩)
  have hsz':as[t].length<sizeLine:=hsz _ (List.getElem_mem htl)
  show Q9 _ _ _ ((σ.set j wv).set j (some (.ref q0))) H'
  refine⟨.ref q0,by rw[List.getElem?_set_self (by simpa using hjl)], .inl ⟨rfl,_,SqL.of hq0⟩,q0,ys, .int n,rfl,rfl,hq0,by rw[Paired.len g3];exact hsz',?_⟩
  obtain⟨C',w4,m4,o4⟩:=Dk (ys':=ys++[.int n]) (row':=as[t]++[n]) (v:=.ref p) w' hk' q' hrow hx hq0 g2 (Paired.app g3 (show Paired (Xb K (hid H' (OO.set k ((p, .lst xs)::Cs.flatten)))) [V.int n] [n] from .cons rfl .nil))
  obtain⟨p',xs',Cs',e1,o5,rfl⟩:=o4
  cases e1
  have hc1:(p,HO.lst xs)∈(OO.set k ((p, .lst xs')::Cs'.flatten)).flatten∨xs'=xs:=by
   right
   have h1:=w4.tr (p, .lst xs') (by rw[List.set_set];exact List.mem_flatten.mpr ⟨_,List.mem_set hkl _,List.mem_cons_self⟩)
   have hpq:p≠q0:=λee=>by
    have hp1:=XX hk'
    have:=(w'.of (OO':=((p,HO.lst xs)::Cs.flatten)::(OO.set k ((p,HO.lst xs)::Cs.flatten)).set k []) hp1).nd
    rw[X9,List.map_cons,List.cons_append,List.nodup_cons] at this
    exact this.1 (List.mem_append_left _ (List.mem_map.mpr ⟨(q0, .lst ys),Jb g2 _ (by simp),ee.symm⟩))
   rw[Xp hpq] at h1
   have h2:=w'.tr (p, .lst xs) hin
   rw[h1] at h2
   have h3:HO.lst xs'=HO.lst xs:=Option.some.inj h2
   injection h3
  obtain rfl:xs'=xs:=by
   rcases hc1 with h9 |h9
   ·have h1:=w4.tr (p, .lst xs') (by rw[List.set_set];exact List.mem_flatten.mpr ⟨_,List.mem_set hkl _,List.mem_cons_self⟩)
    have h2:=w4.tr (p, .lst xs) (by rw[List.set_set];exact h9)
    rw[h1] at h2
    have h3:HO.lst xs'=HO.lst xs:=Option.some.inj h2
    injection h3
   ·exact h9
  rw[List.set_set] at w4 m4 o5
  refine⟨Cs',some (.ref q0),by simp,w4,m'.trans m4,?_⟩
  have e6:((as.take t).map (· ++[n])++as.drop t).set t (as[t]++[n])=(as.take (t+1)).map (· ++[n])++as.drop (t+1):=by
   rw[List.set_append_right _ _ (by simp;omega)]
   simp only[List.length_map,List.length_take,Nat.min_eq_left (Nat.le_of_lt htl),Nat.sub_self]
   rw[List.drop_eq_getElem_cons htl,List.set_cons_zero,List.take_succ_eq_append_getElem htl,List.map_append,List.append_assoc]
   rfl
  rw[e6] at o5
  exact o5
 ·rintro σ' H' ⟨Cs,wv,rfl,w',m',q'⟩
  have hlen:=q.len.1
  rw[hlen,List.take_length,List.drop_length,List.append_nil] at q'
  exact hr _ wv H' D w' ⟨S.mono _ _ m' s,⟨p,xs,Cs,rfl,q',rfl⟩⟩ (PZ.tr (fd.tr D) m' P)
end
end L2
namespace L2
theorem Lp {α:Type}{us:List α}(h:us.length=1):∃a,us=[a]:=List.length_eq_one_iff.mp h
theorem Lc {α:Type}{us:List α}(h:us.length=2):∃a0 a1,us=[a0,a1]:=by
 cases us with
 |nil=>cases h
 |cons a0 t=>
  obtain⟨a1,rfl⟩:=Lp (Nat.succ.inj h)
  exact⟨a0,a1,rfl⟩
theorem Lg {α:Type}{us:List α}(h:us.length=3):∃a0 a1 a2,us=[a0,a1,a2]:=by
 cases us with
 |nil=>cases h
 |cons a0 t=>
  obtain⟨a1,a2,rfl⟩:=Lc (Nat.succ.inj h)
  exact⟨a0,a1,a2,rfl⟩
theorem L4 {α:Type}{us:List α}(h:us.length=4):∃a0 a1 a2 a3,us=[a0,a1,a2,a3]:=by
 cases us with
 |nil=>cases h
 |cons a0 t=>
  obtain⟨a1,a2,a3,rfl⟩:=Lg (Nat.succ.inj h)
  exact⟨a0,a1,a2,a3,rfl⟩
end L2
namespace L2
open PySem PySem.Spec PyProof.Rows
section
variable {prog:Program}{w:World}{A:Around}{E:Value->Shared->Prop}
end
section
variable {X:Cx}{pos:Pos}
end
section
variable {K:PySem.W.Frag}{Er:Exc->Hp->Prop}{S:SC}{OO OO' OO1 OO2:List (List Xn)}{σ:St}{α β γ ρ ι δ ε ζ:Type}
variable {Fd:Ends->β->Hp->Prop}[fd:FdOk Fd]{u:TS}
theorem Kr {r:Enc α}:Ev K Er S OO OO σ (tC .non) (oF (Q5 r)) (.ok none):=λH Q w s P=>P _ [] H (Xo.refl _) w.nil (by rw[Y1];exact Xo.refl _) ⟨rfl,rfl⟩
theorem Jd {te:TE}{r:Enc α}{m:Rs α}(hn:∀{K h v a C},oF r K h v a C->v≠ .non)(he:Ev K Er S OO OO' σ te (oF r) m):Ev K Er S OO OO' σ te (oF (Q5 r)) (m.bind λa=>.ok (some a)):=λH Q w s P=>by
 refine he H Q w s ?_
 cases m with
 |bad=>exact P
 |err x=>exact P
 |ok a=>exact λv C H' s' w' m' ho=>P v C H' s' w' m' ⟨ho.1,hn ho,ho.2⟩
end
section
variable {X:Cx}
end
section
variable {K:PySem.W.Frag}{Er:Exc->Hp->Prop}{S:SC}{OO OO' OO1 OO2:List (List Xn)}{σ:St}{α β γ ρ ι δ ε ζ:Type}
variable {Fd:Ends->β->Hp->Prop}[fd:FdOk Fd]{u:TS}
end
set_option maxRecDepth 100000
section
variable {prog:Program}{w:World}{A:Around}{E:Value->Shared->Prop}{s:Shared}
theorem KB:typeLookup (.type "list") "keys" =pure none:=by rw[typeLookup_type,builtinLookup_eq_fast];kernel_rfl
theorem By {a:Addr}{o:Obj}{xs:Array Value}{k:Nat}{R:Option Value->Shared->Prop}(hx:s.heap.get? a=some o)(hc:o.cls= .type "list")(hdat:o.data= .seq xs k)(hd:o.dict=none)(hA:A.handled=none)
    (h:∀g tk,(∀b u,s.heap.get? b=some u->g.get? b=some u)->R none {s with heap:=g,toks:=tk}):wpAny (model prog w) A (getAttr? (.ref a) "keys") R E s:=by
  obtain⟨c,dct,dat,sl⟩:=o
  simp only at hc hdat hd
  subst hc hdat hd
  obtain⟨hp,g,d,tk,os⟩:=s
  have hT:∀tk',(⟨hp,g,d,tk',os⟩:Shared).TypeIs (.ref a) "list":=λ_=>⟨_,hx,rfl⟩
  have f1:=sub_AttributeError
  have f3:=F.slot_list_getattribute.lookup
  have f4:=F.slot_list_getattribute.bind (.ref a)
  have f5:=am_list_getattr_none
  unfold getAttr? getAttrBy? getAttrBy
  repeat (any_goals (first
    |assumption
    |exact hT _
    | ((with_reducible show wpAny _ _ (call (Value.builtin "list.__getattribute__") _ _) _ _ _)
       refine call_meets F.slot_list_getattribute (hT _) am_entry_list_getattribute (F.args_list_getattribute_2 _ _) (meets_getattribute_miss_list a xs k sl "keys" _ KB (by decide+kernel)) ⟨hx,hA,λh' tk' e hx'=>?_⟩)
    |wp_step))
  obtain⟨t',u',he⟩:=hx'.there
  show wpAny _ _ (getattributeRaised _ _ _ _ _ _ _) _ _ _
  unfold getattributeRaised
  repeat (any_goals (first |wp_step |assumption))
  exact h _ _ hx'.keeps
theorem ZD:plainId "dict.update.loop" =true:=by decide+kernel
theorem JB:entryFor table "dict.update.loop" =some Builtin.«dict.update.loop»:=entryFor_of_fast (by kernel_rfl)
end
section
variable {prog:Program}{w:World}{A:Around}{R:Result->Shared->Prop}{K:Type}[DecidableEq K]{knd:KeyKind prog w K}
noncomputable def Ho (knd:KeyKind prog w K)(h:Heap)(its:Array Value)(kv:List (K×Value)):Prop:=its.size=kv.length/\∀(j:Nat) (x:Value) (p:K×Value),its[j]?=some x->kv[j]?=some p->∃t key,x= .ref t/\h.IsTuple t #[key,p.2]/\knd.is p.1 key=true
noncomputable def VT (acc kv:List (K×Value)):List (K×Value):=kv.foldl (λa p=>stored a p.1 p.2) acc
theorem G3 (acc:List (K×Value))(k:K)(v:Value):(stored acc k v).length<=acc.length+1:=by
 unfold stored
 split
 ·simp
 ·simp
theorem U2 {h:Heap}{t I l:Addr}{i:Nat}{xs:Array Value}(ht:h.IsTuple t xs)(it:h.IsListIter I l i):t≠I:=λe=>by
 subst e
 obtain⟨o,ho,hc,_⟩:=ht
 obtain⟨o',ho',hc',_⟩:=it
 rw[ho] at ho'
 cases ho'
 rw[hc] at hc'
 exact absurd hc' (by decide)
theorem Cp {h:Heap}{t d:Addr}{xs:Array Value}{acc:List (K×Value)}(ht:h.IsTuple t xs)(hd:h.DictOf knd d acc):t≠d:=λe=>by
 subst e
 obtain⟨o,ho,hc,_⟩:=ht
 obtain⟨o',_,_,ho',hc',_⟩:=hd
 rw[ho] at ho'
 cases ho'
 have:=hc'.1
 rw[hc] at this
 exact absurd this (by decide)
theorem Ml (hh:A.in1.handled=none){d I l:Addr}(hdI:d≠I)(hlI:l≠I)(hld:l≠d){its:Array Value}{kv:List (K×Value)}:
  ∀(k i:Nat) (s:Shared) (acc:List (K×Value)),its.size-i=k->i<=its.size->s.heap.IsListIter I l i->s.heap.IsList l its->Ho knd s.heap its kv->s.heap.DictOf knd d acc->acc.length+its.size<=sizeLine+i->
  (∀g tk,g.DictOf knd d (VT acc (kv.drop i))->(∀b o,b≠I->b≠d->s.heap.get? b=some o->g.get? b=some o)->R (.ok (.ret .none)) {s with heap:=g,toks:=tk})->
  codeAny (model prog w) A (.builtin "dict.update.loop" ⟨[.ref d, .ref I,rawInt i, .none],[]⟩) R s:=by
 intro k
 induction k with
 |zero=>
  intro i s acc hk hi it hl hp hd hz r
  refine codeAny_builtin JB ?_
  rw[Around.under_plainId ZD _]
  show wpAny _ A.in1 (pyNext (.ref I) >>= _) _ _ s
  refine wpAny_bind (wpAny_pyNext_list_end hh it hl (by simp;omega) λg hx=>?_)
  show wpAny _ _ (Builtin.Dict.addKeywords d [] >>= λ_=>ret Value.none) _ _ _
  refine wpAny_bind (wpAny_pure (wpAny_pure (r g s.toks ?_ λb o hb _ e=>hx b o hb e)))
  have e:kv.drop i=[]:=List.drop_eq_nil_of_le (by have:=hp.1;omega)
  rw[e]
  exact hd.extBut hx hdI
 |succ k ih=>
  intro i s acc hk hi it hl hp hd hz r
  have lt:i<its.size:=by omega
  refine codeAny_builtin JB ?_
  rw[Around.under_plainId ZD _]
  show wpAny _ A.in1 (pyNext (.ref I) >>= _) _ _ s
  refine wpAny_bind (wpAny_pyNext_list_item it hl (x:=its[i]) (by simp[lt]) λg it' hx=>?_)
  have lt2:i<kv.length:=by have:=hp.1;omega
  obtain⟨t,key,et,ht,hkey⟩:=hp.2 i its[i] kv[i] (by simp[lt]) (by simp[lt2])
  have htI:t≠I:=U2 ht it
  have ht1:g.IsTuple t #[key,kv[i].2]:=ht.extBut hx.extBut htI
  obtain⟨o,ho,hc,n,hdt⟩:=id ht1
  rw[et]
  show wpAny _ _ (holding [Value.ref t] _ >>= λ_=>again (.builtin "dict.update.loop" ⟨[.ref d, .ref I,rawInt ((i:Int)+1), .none],[]⟩)) _ _ _
  refine wpAny_bind (wpAny_holding ?_)
  refine wpAny_bind (wpAny_tryCatch ?_)
  unfold Builtin.Dict.pairItems
  refine wpAny_bind (wpAny_typeOf (s:={s with heap:=g}) ⟨o,ho,hc⟩ ?_)
  rw[if_pos (by decide)]
  refine wpAny_bind (wpAny_seqItems (s:={s with heap:=g}) ho hdt (wpAny_pure ?_))
  show wpAny _ _ (holding [key,kv[i].2] (dictSet d key kv[i].2)) _ _ _
  refine wpAny_holding (wpAny_dictSet_pairs (s:={s with heap:=g}) hkey (hd.extBut hx.extBut hdI) (λg2 hd2 hx2=>?_) (by omega))
  refine wpAny_pure ⟨plainId_quiet ZD _,?_⟩
  have hne:∀{b:Addr}{u:Obj},s.heap.get? b=some u->b≠I->b≠d->g2.get? b=some u:=fun {b u} e h1 h2=>(hx2.2 b h2).trans (hx.extBut b u h1 e)
  refine ih (i+1) {s with heap:=g2,toks:=s.toks+1} (stored acc kv[i].1 kv[i].2) (by omega) (by omega) ?_ ?_ ?_ hd2 ?_ ?_
  ·exact it'.extBut hx2.extBut (λe=>hdI e.symm)
  ·exact(hl.extBut hx.extBut hlI).extBut hx2.extBut hld
  ·refine⟨hp.1,λj x p h1 h2=>?_⟩
   obtain⟨t2,key2,e2,ht2,hk2⟩:=hp.2 j x p h1 h2
   exact⟨t2,key2,e2,(ht2.extBut hx.extBut (U2 ht2 it)).extBut hx2.extBut (Cp ht2 hd),hk2⟩
  ·have:=G3 acc kv[i].1 kv[i].2
   omega
  ·intro g3 tk hd3 kp
   refine r g3 tk ?_ λb o h1 h2 e=>kp b o h1 h2 (hne e h1 h2)
   rw[List.drop_eq_getElem_cons lt2]
   exact hd3
theorem G0 (hh:A.handled=none){E:Value->Shared->Prop}{s:Shared}{l:Addr}{o:Obj}{n:Nat}{its:Array Value}{kv:List (K×Value)}{Q:Value->Shared->Prop}(hx:s.heap.get? l=some o)(hc:o.cls= .type "list")(hdat:o.data= .seq its n)(hd:o.dict=none)(hp:Ho knd s.heap its kv)(hz:its.size<=sizeLine)
  (r:∀g tk,g.DictOf knd s.heap.objs.size (VT [] kv)->(∀b u,s.heap.get? b=some u->g.get? b=some u)->Q (.ref s.heap.objs.size) {s with heap:=g,toks:=tk}):wpAny (model prog w) A (call (.type "dict") [.ref l]) Q E s:=by
 refine callType_codes (Q₁:=λobj s₁=>obj= .ref s.heap.objs.size/\s₁={s with heap:=s.heap.push {cls:=.type "dict",data:=.dict #[]}}) F.kt_called_dict (F.kt_typeCall_dict_1 _) F.entry_dict_init (kt_code_dict_new _ ⟨rfl,rfl⟩) ?_
 rintro obj s₁ ⟨rfl,rfl⟩
 have hnew:(s.heap.push {cls:=.type "dict",data:=.dict #[]}).DictOf knd s.heap.objs.size []:=Heap.DictOf.new s.heap
 have hx1:(s.heap.push {cls:=.type "dict",data:=.dict #[]}).get? l=some o:=Heap.get?_push_of_some _ hx
 refine⟨hnew.typeIs,F.args_dict_init_2 _ _,?_⟩
 unfold Builtin.«dict.__init__»
 refine wpAny_bind ?_
 unfold Builtin.Dict.selfAndRest
 refine wpAny_bind (wpAny_notOrdered_dict hnew.typeIs ?_)
 show wpAny _ _ (pure (s.heap.objs.size,[Value.ref l])) _ _ _
 refine wpAny_pure ?_
 show wpAny _ _ (Builtin.Dict.updateFrom "dict.__init__" s.heap.objs.size (.ref l) [] .none) _ _ _
 unfold Builtin.Dict.updateFrom
 refine wpAny_bind (wpAny_typeOf ⟨o,hx1,hc⟩ ?_)
 rw[if_pos (by decide)]
 refine wpAny_bind (By hx1 hc hdat hd hh λg tk kp=>?_)
 rw[if_pos (show(none:Option Value).isNone=true from rfl)]
 refine wpAny_bind (wpAny_rule ?_)
 have hlg:g.IsList l its:=⟨o,kp _ _ hx1,hc,n,hdat⟩
 have hdg:g.DictOf knd s.heap.objs.size []:=by
  obtain⟨o',es,ep,ho,q⟩:=hnew
  exact⟨o',es,ep,kp _ _ ho,q⟩
 have hdlt:s.heap.objs.size<g.objs.size:=by
  obtain⟨o',es,ep,ho,q⟩:=hdg
  exact Heap.lt_size ho
 have hllt:l<s.heap.objs.size:=Heap.lt_size hx
 refine wpAny_bind (wpAny_pyIter_list (s:={s with heap:=g,toks:=tk}) hlg ?_)
 refine wpAny_pure ⟨plainId_quiet ZD _,?_⟩
 refine Ml (A:=A.in1) (show A.in1.in1.handled=none from hh) (d:=s.heap.objs.size) (I:=g.objs.size) (l:=l) (its:=its) (kv:=kv) (Nat.ne_of_lt hdlt) (Nat.ne_of_lt (Nat.lt_trans hllt hdlt)) (Nat.ne_of_lt hllt) its.size 0 _ [] rfl (Nat.zero_le _) ⟨_,Heap.get?_push_size _ rfl,rfl,rfl⟩ (hlg.push _) ?_ (hdg.push _) (by simpa using hz) ?_
 ·refine⟨hp.1,λj x p h1 h2=>?_⟩
  obtain⟨t2,key2,e2,⟨ot,hot,q⟩,hk2⟩:=hp.2 j x p h1 h2
  exact⟨t2,key2,e2,⟨ot,Heap.get?_push_of_some _ (kp _ _ (Heap.get?_push_of_some _ hot)),q⟩,hk2⟩
 ·intro g2 tk2 hd2 kp2
  refine⟨rfl,r g2 tk2 hd2 λb u e=>?_⟩
  have hb:=Heap.lt_size e
  exact kp2 b u (Nat.ne_of_lt (Nat.lt_trans hb hdlt)) (Nat.ne_of_lt hb) (Heap.get?_push_of_some _ (kp _ _ (Heap.get?_push_of_some _ e)))
end
section
variable {X:Cx}
noncomputable def Qv (acc kvs:List (Key×V)):List (Key×V):=kvs.foldl (λa p=>Jp a p.1 p.2) acc
theorem BM (kvs:List (Key×V))(k:Key)(v:V):(Jp kvs k v).length<=kvs.length+1:=by
 unfold Jp
 split<;> simp
theorem VB:∀(kvs acc:List (Key×V)),(Qv acc kvs).length<=acc.length+kvs.length
 | [],acc=>by simp[Qv]
 |p::kvs,acc=>by
  have h1:=VB kvs (Jp acc p.1 p.2)
  have h2:=BM acc p.1 p.2
  show(Qv (Jp acc p.1 p.2) kvs).length<=_
  rw[List.length_cons]
  omega
theorem KV.all {kvs:List (Key×V)}{vs:List (Key×Value)}(t:KV kvs vs):∀{acc:List (Key×V)}{acc':List (Key×Value)},KV acc acc'->KV (Qv acc kvs) (VT acc' vs):=by
 induction t with
 |nil=>intro acc acc' h;exact h
 | @cons p q kvs vs r _ ih=>
  intro acc acc' h
  have h2:=h.put p.1 r.2
  have e:stored acc' p.1 q.2=stored acc' q.1 q.2:=by rw[r.1]
  rw[e] at h2
  exact ih h2
noncomputable def Ex (K:PySem.W.Frag):List V->Hp->VK->Prop:=λxs H Q=>∃ l ps kvs,xs=[.ref l]/\SqL K H l ps/\Paired (λp (kv:Key×V)=>∃ t,p= .ref t/\SqT K H t [kV kv.1,kv.2]) ps kvs/\∀d,H d=none->Q (.ref d) (upd H d (.dK (Qv [] kvs)))
theorem Ly {pins:List (Addr×Obj)}{σ:St}{H:Hp}{s:Shared}(I:Inv X pins σ H s):∀{ps:List V}{kvs:List (Key×V)}{its:List Value},Paired (λp (kv:Key×V)=>∃ t,p= .ref t/\SqT X.K H t [kV kv.1,kv.2]) ps kvs->XR ps its->∃kv,KV kvs kv/\Ho (X1 X.prog X.w) s.heap its.toArray kv:=fun {ps kvs its} p=>by
 induction p generalizing its with
 |nil=>
  intro v
  cases v
  exact⟨[], .nil,rfl,λj x p h=>by simp at h⟩
 | @cons _ b _ _ r _ ih=>
  intro v
  cases v with
  |cons rv v=>
   obtain⟨kv,h1,h2,h3⟩:=ih v
   obtain⟨t,rfl,ht⟩:=r
   cases rv
   obtain⟨i2,v2,tp,_⟩:=I.tuple ht
   obtain⟨key,val,rfl,e1,e2⟩:=XR.two v2
   refine⟨(b.1,val)::kv, .cons ⟨rfl,e2⟩ h1,by simpa using h2,λj x p hj hp=>?_⟩
   cases j with
   |zero=>
    simp at hj hp
    subst hj hp
    exact⟨t,key,rfl,tp,G8 e1⟩
   |succ j=>exact h3 j x p (by simpa using hj) (by simpa using hp)
theorem Q1 (K:PySem.W.Frag)(hK:X.K=K)(hc:X.calm=true):ZJ X (.type "dict") (Ex K):=by
 subst hK
 intro pins s σ H xs us Q I r h
 obtain⟨l,ps,kvs,rfl,hq,hp,q⟩:=h
 obtain⟨u,rfl,ru⟩:=Ky r
 cases ru
 obtain⟨its,rv,⟨o,n,ho,hcl,hdn,hdat⟩,hz⟩:=I.list hq
 obtain⟨kv,h1,h2⟩:=Ly I hp rv
 have hlen:=rv.length
 have hl2:=Paired.len hp
 refine G0 (knd:=X1 X.prog X.w) (I.ok.hd hc) ho hcl hdat hdn h2 (by simpa[←hlen] using hz) λg tk hd kp=>?_
 refine⟨.ref s.heap.objs.size,_,I.laid (t':=tk) kp (Nat.le_refl _) (show Ym X.prog X.w _ g _ (.dK (Qv [] kvs)) from⟨Nat.le_trans (VB kvs []) (by simp;omega),beq_eq_false_iff_ne.mpr (Ne.symm (Nat.ne_of_lt I.big)),_,KV.all h1 .nil,hd⟩),rfl,q _ (I.hok.fresh (Nat.le_refl _))⟩
end
section
variable {X:Cx}{pins:List (Addr×Obj)}{σ:St}{H:Hp}{s:Shared}{d:Addr}{o:Obj}{kvs:List (Key×V)}
theorem DH {k:Key}{u:Value}(h:Vd k u=true):XW (kV k) u:=by
 cases k with
 |inl n=>
  cases u<;> simp[Vd,Value.isInt] at h
  subst h
  exact⟨_,rfl⟩
 |inr x=>
  cases u<;> simp[Vd,Value.isStrOf] at h
  subst h
  exact⟨_,rfl⟩
theorem KV.key {kvs:List (Key×V)}{vs:List (Key×Value)}(h:KV kvs vs):∀{i:Nat} (h1:i<kvs.length) (h2:i<vs.length),(kvs[i]).1=(vs[i]).1:=by
 induction h with
 |nil=>intro i h1;exact absurd h1 (Nat.not_lt_zero _)
 |cons r _ ih=>
  intro i h1 h2
  cases i with
  |zero=>exact r.1
  |succ i=>exact ih (Nat.lt_of_succ_lt_succ h1) (Nat.lt_of_succ_lt_succ h2)
end
section
variable {X:Cx}
theorem Vf {h:Heap}{a b:Addr}{vs:List Value}{out:Array Value}{o:Obj}(hb:b≠a)(e:h.get? b=some o):(sortedHeap h a vs out).get? b=some o:=
 Heap.get?_update_of_ne _ hb.symm (Heap.get?_push_of_some _ (Heap.get?_push_of_some _ (Heap.get?_update_of_ne _ hb.symm e)))
end
section
variable {K:PySem.W.Frag}{Er:Exc->Hp->Prop}{S:SC}{OO OO' OO2:List (List Xn)}{σ:St}{α β γ ρ ι δ ε:Type}
variable {Fd:Ends->β->Hp->Prop}[fd:FdOk Fd]{u:TS}
theorem D0 {ta:TE}{r:Enc α}{q:Enc γ}{m:Rs (α×γ)}(ha:EvB K Er S OO σ ta (rP2 r q) m):EvB K Er S OO σ (tCB (UG K) (XT ta ZO)) Xb (m.bind λ_=>.ok (2:Int)):=λH Q w s P=>
 ha.run w s FB.tr P λa x H1 s1 w1 q1 r9 P1=>by obtain⟨p,x1,x2,e,q,h1,h2⟩:=r9;exact⟨p,[x1,x2],by rw[e], .inr (SqT.of q),P1 _ H1 (Xo.refl _) rfl⟩
noncomputable def J9 (d ps:List (Int×α)):List (Int×α):=ps.foldl (λd p=>Zg d p.1 p.2) d
theorem Ko {r:Enc α}{H:Hp}{kvs:List (Key×V)}{ps:List (Int×α)}(h:Paired (rDP r K H) kvs ps):∀{acc:List (Key×V)}{d:List (Int×α)},Paired (rDP r K H) acc d->Paired (rDP r K H) (Qv acc kvs) (J9 d ps):=by
 induction h with
 |nil=>intro acc d h;exact h
 | @cons kv kx _ _ r _ ih=>
  intro acc d h
  have:=JJ (k:=kx.1) r.2 h
  rw[←r.1] at this
  exact ih this
theorem Cz {r:Enc α}{h H:Hp}(hs:Xo h H){xs:List V}{ps:List (Int×α)}(p:Paired (rP2 Xb r K h) xs ps):∃kvs,Paired (λp (kv:Key×V)=>∃ t,p= .ref t/\SqT K H t [kV kv.1,kv.2]) xs kvs/\Paired (rDP r K h) kvs ps:=by
 induction p with
 |nil=>exact⟨[], .nil, .nil⟩
 | @cons x pr _ _ q _ ih=>
  obtain⟨kvs,h1,h2⟩:=ih
  obtain⟨t,a,b,e,ht,e1,e2⟩:=q
  have e1:a= .int pr.1:=e1
  subst e1
  exact⟨(.inl pr.1,b)::kvs, .cons ⟨t,e,SqT.of (hs _ _ ht)⟩ h1, .cons ⟨rfl,e2⟩ h2⟩
theorem GD {ta:TE}{r:Enc α}[z:MonoE r]{ma:Rs (List (Int×α))}(ha:EvL K Er S OO σ ta (rP2 Xb r) ma):Ev K Er S OO OO σ (tCB (Ex K) (XT ta ZO)) (oD r) (ma.bind λps=>.ok (J9 [] ps)):=λH Q w s P=>
 ha.run w s FO.tr P λps x H1 s1 w1 q1 ⟨p,xs,e,q,pr⟩ P1=>by
  obtain⟨kvs,h1,h2⟩:=Cz (Xu (H:=H1) (OO:=OO)) pr
  refine⟨p,xs,kvs,by rw[e],SqL.of q,h1,λd hd=>?_⟩
  have hn:=JH (OO:=OO) hd (o:=.dK (Qv [] kvs))
  exact P1 (.ref d) [(d, .dK (Qv [] kvs))] _ (Yl hd _) (w1.new hd rfl) hn ⟨d,_,rfl,Paired.imp2 (λ_ _ h=>⟨h.1,z.mono hn h.2⟩) (Ko h2 .nil),rfl⟩
end
section
variable {prog:Program}{w:World}{A:Around}
end
section
variable {X:Cx}
end
section
variable {K:PySem.W.Frag}{Er:Exc->Hp->Prop}{S:SC}{OO OO' OO1 OO2:List (List Xn)}{σ:St}{α β γ ρ ι δ ε:Type}
variable {Fd:Ends->β->Hp->Prop}[fd:FdOk Fd]{u:TS}
noncomputable def Ma:Enc V:=λ_ H v y=>∃ a x,v= .ref a/\H a=some (.tup [y,x])
instance:FlatE Ma:=⟨λs r9=>by obtain⟨a,x,e,h⟩:=r9;exact⟨a,x,e,s _ _ h rfl⟩⟩
theorem CS {o1:OE α}{o2:OE γ}[z1:MonoO o1][z2:MonoO o2]{m:Rs β}{v:V}{a:α×γ}{C:List Xn}(k k1 k2:Nat)(hk:OO[k]?=some C)(hk1:k1<(OO.set k []).length)(hk2:k2<((OO.set k []).set k1 []).length)(h:∀x,S.p x->oT2 o1 o2 K x v a C)
  (hr:∀v1 v2 C1 C2,Sv Er ((((S.add K Ma v v1).add K Im v v2).addO K o1 v1 a.1 C1).addO K o2 v2 a.2 C2) (((OO.set k []).set k1 C1).set k2 C2) σ u Fd m):Sv Er S OO σ u Fd m:=λH D w s P=>by
 obtain⟨p,x,y,C1,C2,e,hp,h1,h2,c⟩:=h _ s
 subst c e
 have pm:=XX hk
 have pm2:(C1::C2::OO.set k []).flatten.Perm OO.flatten:=by
  refine List.Perm.trans ?_ pm
  simp only[List.flatten_cons]
  rw[List.append_assoc]
 have w1:W (C1::C2::OO.set k []) H:=w.of pm2
 obtain⟨w2,m2⟩:=LQ (k:=k1+1) w1 (by rw[List.length_cons];exact Nat.succ_lt_succ hk1)
 have w2':W (C2::(OO.set k []).set k1 C1) H:=w2
 obtain⟨w3,m3⟩:=LQ (k:=k2) w2' (by rw[List.length_set] at hk2⊢;exact hk2)
 have m4:Xo (hid H OO) (hid H (((OO.set k []).set k1 C1).set k2 C2)):=by
  rw[←Yv pm2]
  exact Xo.trans m2 m3
 exact hr x y C1 C2 H D w3 ⟨⟨⟨⟨S.mono _ _ m4 s,p,y,rfl,m4 _ _ hp⟩,p,x,rfl,m4 _ _ hp⟩,z1.mono m4 h1⟩,z2.mono m4 h2⟩ (PZ.tr (fd.tr D) m4 P)
end
section
variable {X:Cx}
end
section
variable {K:PySem.W.Frag}{Er:Exc->Hp->Prop}{S:SC}{OO OO' OO1 OO2:List (List Xn)}{σ:St}{α β γ ρ ι δ ε:Type}
end
section
variable {K:PySem.W.Frag}{Er:Exc->Hp->Prop}{S:SC}{OO OO' OO1 OO2:List (List Xn)}{σ:St}{α β γ ρ ι δ ε:Type}
noncomputable def tk (k:List Int):List Key:=k.map Sum.inl
variable {Fd:Ends->β->Hp->Prop}[fd:FdOk Fd]{u:TS}
end
section
variable {X:Cx}{α:Type}[DecidableEq α]{r:Enc α}{d:Nat}
end
section
variable {K:PySem.W.Frag}{Er:Exc->Hp->Prop}{S:SC}{OO OO' OO1 OO2:List (List Xn)}{σ:St}{α β γ ρ ι δ ε:Type}
end
section
variable {X:Cx}{pins:List (Addr×Obj)}{σ:St}{H:Hp}{s:Shared}{h':Heap}
theorem Inv.turns {t':Nat}{ch:List Addr}(I:Inv X pins σ H s)(k:∀b o,b∉ch->s.heap.get? b=some o->h'.get? b=some o)(hf:∀b∈ch,K9 X pins H b):Inv X pins σ H {s with heap:=h',toks:=t'}:=by
 have nit:∀b o,H b=some o->b∉ch:=λb o e z=>by rw[(hf b z).1] at e;cases e
 refine I.step (g':=s.gens) (d':=s.drawn) (ch:=ch) (λb hb=>?_) (λb o _ _ hc e _=>k b o hc e) (λb o _ _ hc e _=>⟨o.slots,k b o hc e⟩)
  (λb o _ e n=>n) (λb o hc e=>⟨o,k b o hc e⟩) (λb xs e=>e) (λb o xs e=>e) (λb ps e=>⟨#[],by rw[e];simp⟩) (λm hm=>?_) (λb v e=>?_) I.bare
 ·obtain⟨f0,f1,f2,f3,f4,f5⟩:=hf b hb
  exact⟨f3,f1,f4,f5⟩
 ·obtain⟨o,es,ep,ho,r⟩:=hm
  exact⟨o,es,ep,k _ o (λz=>(hf _ z).2.1 rfl) ho,r⟩
 ·refine(I.hok b v e).stay (λc o hc q=>k c o ?_ q) (λc q=>q) λc xs q=>q
  rcases hc with z |z
  ·rw[z];exact nit b v e
  ·exact nit c _ z
end
section
variable {X:Cx}{elts:List Expr}{k:Nat}{pos0:Pos}
end
section
variable {K:PySem.W.Frag}{Er:Exc->Hp->Prop}{S:SC}{OO OO' OO1 OO2:List (List Xn)}{σ:St}{α β γ ρ ι δ ε:Type}
end
section
variable {X:Cx}
end
section
variable {K:PySem.W.Frag}{Er:Exc->Hp->Prop}{S:SC}{OO OO' OO1 OO2:List (List Xn)}{σ:St}{α β γ ρ ι δ ε:Type}
variable {Fd:Ends->β->Hp->Prop}[fd:FdOk Fd]{u:TS}
end
section
variable {K:PySem.W.Frag}{Er:Exc->Hp->Prop}{S:SC}{OO OO' OO1 OO2:List (List Xn)}{σ:St}{α β γ ρ ι δ ε:Type}{u:TS}
end
section
variable {X:Cx}
end
section
variable {K:PySem.W.Frag}{Er:Exc->Hp->Prop}{S:SC}{OO:List (List Xn)}{σ:St}
end
section
variable {X:Cx}{pins:List (Addr×Obj)}{σ:St}{H:Hp}{s:Shared}{d:Addr}{o:Obj}{kvs:List (Key×V)}
end
section
variable {X:Cx}
end
section
variable {K:PySem.W.Frag}{Er:Exc->Hp->Prop}{S:SC}{OO OO' OO1 OO2 OO3:List (List Xn)}{σ:St}{α β γ ρ ι δ ε ζ:Type}
variable {Fd:Ends->β->Hp->Prop}[fd:FdOk Fd]{u:TS}
noncomputable def oT3 (o:OE α)(q:OE β)(t:OE γ):OE (α×β×γ):=λK h v a C=>∃ p x y z C1 C2 C3,v= .ref p/\h p=some (.tup [x,y,z])/\o K h x a.1 C1/\q K h y a.2.1 C2/\t K h z a.2.2 C3/\C=C1++(C2++C3)
instance {o:OE α}{q:OE β}{t:OE γ}[m:MonoO o][n:MonoO q][k:MonoO t]:MonoO (oT3 o q t):=⟨λs r9=>by obtain⟨p,x,y,z,C1,C2,C3,e,h,h1,h2,h3,c⟩:=r9;exact⟨p,x,y,z,C1,C2,C3,e,s _ _ h,m.mono s h1,n.mono s h2,k.mono s h3,c⟩⟩
instance {o:OE α}{q:OE β}{t:OE γ}[m:FlatO o][n:FlatO q][k:FlatO t]:FlatO (oT3 o q t):=⟨λs r9=>by obtain⟨p,x,y,z,C1,C2,C3,e,h,h1,h2,h3,c⟩:=r9;exact⟨p,x,y,z,C1,C2,C3,e,s _ _ h rfl,m.flat s h1,n.flat s h2,k.flat s h3,c⟩⟩
instance {o:OE α}{q:OE β}{t:OE γ}{ro:Enc α}{rq:Enc β}{rt:Enc γ}[m:FrzC o ro][n:FrzC q rq][k:FrzC t rt]:FrzC (oT3 o q t) (rP3 ro rq rt):=⟨λ⟨p,x,y,z,C1,C2,C3,e,h,h1,h2,h3,c⟩ s hc=>by
 subst c
 exact⟨p,x,y,z,e,s _ _ h,m.frz h1 s λc hm=>hc c (by simp[hm]),n.frz h2 s λc hm=>hc c (by simp[hm]),k.frz h3 s λc hm=>hc c (by simp[hm])⟩⟩
end
section
variable {K:PySem.W.Frag}{Er:Exc->Hp->Prop}{S:SC}{OO OO' OO1 OO2:List (List Xn)}{σ:St}{α β γ ρ ι δ ε ζ:Type}
variable {Fd:Ends->β->Hp->Prop}[fd:FdOk Fd]{u:TS}
end
section
variable {K:PySem.W.Frag}{Er:Exc->Hp->Prop}{S:SC}{OO OO' OO1 OO2:List (List Xn)}{σ:St}{α β γ ρ ι δ ε ζ:Type}
variable {Fd:Ends->β->Hp->Prop}[fd:FdOk Fd]{u:TS}
end
section
variable {K:PySem.W.Frag}{Er:Exc->Hp->Prop}{S:SC}{OO OO' OO1 OO2:List (List Xn)}{σ:St}{α β γ ρ ι δ ε ζ α1 α3 α4:Type}
variable {Fd:Ends->β->Hp->Prop}[fd:FdOk Fd]{u:TS}
end
end L2
namespace L2
open PySem
noncomputable def Inc (xs:Array Nat):Prop:=xs.toList.Pairwise (· < ·)
theorem Inc.lt {xs:Array Nat}(h:Inc xs){i j v u:Nat}(hij:i<j)(hi:xs[i]?=some v)(hj:xs[j]?=some u):v<u:=by
 rw[←Array.getElem?_toList] at hi hj
 obtain⟨a,rfl⟩:=List.getElem?_eq_some_iff.mp hi
 obtain⟨b,rfl⟩:=List.getElem?_eq_some_iff.mp hj
 exact List.pairwise_iff_getElem.mp h i j a b hij
theorem Inc.le {xs:Array Nat}(h:Inc xs){i j v u:Nat}(hij:i<=j)(hi:xs[i]?=some v)(hj:xs[j]?=some u):v<=u:=by
 rcases Nat.lt_or_eq_of_le hij with z |z
 ·exact Nat.le_of_lt (h.lt z hi hj)
 ·subst z;rw[hi] at hj;cases hj;exact Nat.le_refl _
structure TOk (t:SetTable)(led:Bool):Prop where
 inc:Inc t.place
 dum:t.dummies= #[]
 led:t.led=led
theorem TOk.fresh (f m:Nat)(led:Bool):TOk (.fresh f m led) led:=⟨List.Pairwise.nil,rfl,rfl⟩
end L2
namespace L2
open PySem PySem.Spec PyProof.Rows
theorem Bs {vs:List Value}{ms:List Int}(h:IntsAre vs ms)(k:Int):(∃v∈vs,Value.isInt k v=true)↔k∈ms:=by
 induction h with
 |nil=>simp
 |cons n t _ ih=>
  rw[List.mem_cons, ←ih]
  constructor
  ·rintro⟨v,hv,e⟩
   rcases List.mem_cons.mp hv with z |z
   ·subst z;obtain⟨t',e'⟩:=Value.isInt_shape e;cases e';exact .inl rfl
   ·exact .inr ⟨v,z,e⟩
  ·rintro(z | ⟨v,hv,e⟩)
   ·subst z;exact⟨_, .head _,beq_self_eq_true _⟩
   ·exact⟨v, .tail _ hv,e⟩
theorem FC {vs vs':List Value}(p:vs'.Perm vs):∀{ms:List Int},IntsAre vs ms->∃ms',IntsAre vs' ms'/\ms'.Perm ms:=by
 induction p with
 |nil=>intro ms h;exact⟨ms,h, .refl _⟩
 |cons x _ ih=>
  intro ms h
  cases h with
  |cons n t h=>obtain⟨m,a,b⟩:=ih h;exact⟨n::m, .cons n t a,b.cons _⟩
 |swap x y l=>
  intro ms h
  cases h with
  |cons n t h=>cases h with
   |cons m u h=>exact⟨_, .cons m u (.cons n t h), .swap ..⟩
 |trans _ _ ih1 ih2=>
  intro ms h
  obtain⟨m,a,b⟩:=ih2 h
  obtain⟨m',a',b'⟩:=ih1 a
  exact⟨m',a',b'.trans b⟩
noncomputable def dd (l:List Int):List Int:=l.foldl step_dedup []
structure SCore (prog:Program)(w:World)(es:Array (Int×Value))(t:SetTable)(ns:List Int):Prop where
 el:ElemsOf (intKind prog w) es.toList
 pm:∃ms,IntsAre (es.toList.map (·.2)) ms/\ms.Perm ns
 sz:es.size<scanBound
 fit:t.fits es.size=true
 tok:TOk t (!w.params.followText "set-order")
noncomputable def IQ (prog:Program)(w:World)(h:Heap)(a:Addr)(ns:List Int):Prop:=
 ∃o es ep t,h.get? a=some o/\o.ExactSet/\o.data= .set es ep t/\SCore prog w es t ns
section
variable {prog:Program}{w:World}{A:Around}{E:Value->Shared->Prop}{s:Shared}{a:Addr}{ns:List Int}
theorem SCore.len {es:Array (Int×Value)}{t:SetTable}(c:SCore prog w es t ns):es.size=ns.length:=by
 obtain⟨ms,a,b⟩:=c.pm
 rw[←b.length_eq, ←IntsAre.length a,List.length_map,Array.length_toList]
theorem SCore.mem {es:Array (Int×Value)}{t:SetTable}(c:SCore prog w es t ns)(k:Int):(∃e∈es.toList,Value.isInt k e.2=true)↔k∈ns:=by
 obtain⟨ms,a,b⟩:=c.pm
 rw[←b.mem_iff, ←Bs a k]
 constructor
 ·rintro⟨e,h,z⟩;exact⟨e.2,List.mem_map_of_mem h,z⟩
 ·rintro⟨v,h,z⟩
  obtain⟨e,h1,rfl⟩:=List.mem_map.mp h
  exact⟨e,h1,z⟩
theorem SCore.perm {es es':Array (Int×Value)}{t t':SetTable}(c:SCore prog w es t ns)(p:es'.toList.Perm es.toList)(f:t'.fits es'.size=true)(k:TOk t' (!w.params.followText "set-order")):SCore prog w es' t' ns:=by
 obtain⟨ms,a,b⟩:=c.pm
 obtain⟨m,a',b'⟩:=FC (p.map (·.2)) a
 have e:es'.size=es.size:=by rw[←Array.length_toList,p.length_eq,Array.length_toList]
 exact⟨c.el.perm p,⟨m,a',b'.trans b⟩,by rw[e];exact c.sz,f,k⟩
theorem IQ.put {h:Heap}{o:Obj}{es es':Array (Int×Value)}{ep:Nat}{t t':SetTable}(ho:h.get? a=some o)(hx:o.ExactSet)(hd:o.data= .set es ep t):
  (h.update a (Obj.putSet es' t')).get? a=some {o with data:=.set es' (ep+1) t'}/\(SCore prog w es' t' ns->IQ prog w (h.update a (Obj.putSet es' t')) a ns):=by
 have g:=Heap.get?_update_self (Obj.putSet es' t') ho (by rw[putSet_of es' t' hd];rfl)
 rw[putSet_of es' t' hd] at g
 exact⟨g,λc=>⟨_,_,_,_,g,hx,rfl,c⟩⟩
end
section
variable {prog:Program}{w:World}{A:Around}{E:Value->Shared->Prop}{s:Shared}
theorem IQ.at {h h':Heap}{a:Addr}{ns:List Int}(x:IQ prog w h a ns)(k:∀o,h.get? a=some o->h'.get? a=some o):IQ prog w h' a ns:=
 let ⟨o,es,ep,t,ho,r⟩:=x;⟨o,es,ep,t,k o ho,r⟩
end
section
variable {M:Model}{A:Around}{E:Value->Shared->Prop}{s:Shared}
end
section
variable {prog:Program}{w:World}{A:Around}{E:Value->Shared->Prop}{s:Shared}{a:Addr}{o:Obj}{es:Array (Int×Value)}{ep:Nat}{t:SetTable}
end
section
variable {prog:Program}{w:World}{A:Around}{E:Value->Shared->Prop}{s:Shared}{a I tp:Addr}{o:Obj}{es:Array (Int×Value)}{ep:Nat}{t:SetTable}{L:List (Int×Value)}
inductive SMode (w:World)(a:Addr)(es:Array (Int×Value))(ep:Nat)(t:SetTable)(tp:Addr)(L:List (Int×Value))(h:Heap)(i:Nat):Value->Prop
 |text (sl:Nat) (hT:w.params.followText "set-order" =true) (hL:L=(pickOrder (w.params.setOrder a ep) es).toList):SMode w a es ep t tp L h i (.int sl 0)
 |plain (sl:Nat) (hT:w.params.followText "set-order" =false) (hp:(!t.plain&&decide (es.size > 1))=false) (hL:L=es.toList) (hb:SetTable.below t.place sl=i):SMode w a es ep t tp L h i (.int sl 0)
 |drawn (ps:List Nat) (hg:h.get? tp=some {cls:=.type "tuple",data:=.seq (ps.map λi=>Value.int (i:Nat) 0).toArray}) (hn:ps.length=L.length) (hL:∀(i:Nat) pl,ps[i]?=some pl->L[i]?=es[pl]?):SMode w a es ep t tp L h i (.ref tp)
structure SIt (w:World)(I a:Addr)(es:Array (Int×Value))(ep:Nat)(t:SetTable)(tp:Addr)(L:List (Int×Value))(o:Obj)(i:Nat)(h:Heap):Prop where
 it:∃ob first,h.get? I=some ob/\ob.cls= .type "set_iterator" /\ob.data= .fields #[first, .int i 0, .ref a, .int es.size 0, .int ep 0]/\SMode w a es ep t tp L h i first
 st:h.get? a=some o
theorem SMode.at {h h':Heap}{i:Nat}{v:Value}(m:SMode w a es ep t tp L h i v)(k:∀o,h.get? tp=some o->h'.get? tp=some o):SMode w a es ep t tp L h' i v:=by
 cases m with
 |text sl hT hL=>exact .text sl hT hL
 |plain sl hT hp hL hb=>exact .plain sl hT hp hL hb
 |drawn ps hg hn hL=>exact .drawn ps (k _ hg) hn hL
end
section
variable {prog:Program}{w:World}{A:Around}{E:Value->Shared->Prop}{s:Shared}{a I tp:Addr}{o:Obj}{es:Array (Int×Value)}{ep:Nat}{t:SetTable}{L:List (Int×Value)}{ns:List Int}
theorem SIt.frame {i:Nat}{h h':Heap}(x:SIt w I a es ep t tp L o i h)(k:∀b∈[I,a,tp],∀o,h.get? b=some o->h'.get? b=some o):SIt w I a es ep t tp L o i h':=by
 obtain⟨⟨ob,f,h1,h2,h3,m⟩,h4⟩:=x
 exact⟨⟨ob,f,k I (by simp) _ h1,h2,h3,m.at λo e=>k tp (by simp) o e⟩,k a (by simp) _ h4⟩
end
section
variable {X:Cx}
end
section
variable {K:PySem.W.Frag}{Er:Exc->Hp->Prop}{S:SC}{OO:List (List Xn)}{σ:St}
variable {u:TS}{α γ ρ ι:Type}
variable {β:Type}{Fd:Ends->β->Hp->Prop}[fd:FdOk Fd]
end
section
variable {α β γ:Type}
end
section
variable {K:PySem.W.Frag}{Er:Exc->Hp->Prop}{S:SC}{OO:List (List Xn)}{σ:St}{α1 α2 α3 α4 ρ:Type}{mg:Str->Option Value}{E:XK}
end
section
variable {X:Cx}{tg:Expr}
end
section
variable {K:PySem.W.Frag}{Er:Exc->Hp->Prop}{S:SC}{OO OO':List (List Xn)}{σ:St}{α β γ:Type}
theorem P3.reverse {δ:Type}{F:α->γ->δ->Prop}:∀{l m n},P3 F l m n->P3 F l.reverse m.reverse n.reverse:=λp=>by
 induction p with
 |nil=>exact .nil
 |cons r _ ih=>rw[List.reverse_cons,List.reverse_cons,List.reverse_cons];exact ih.snoc r
variable {u:TS}{Fd:Ends->β->Hp->Prop}[fd:FdOk Fd]
end
section
variable {K:PySem.W.Frag}{Er:Exc->Hp->Prop}{S:SC}{OO:List (List Xn)}{σ:St}{α β γ ι:Type}{u:TS}{Fd:Ends->β->Hp->Prop}[fd:FdOk Fd]
end
section
variable {K:PySem.W.Frag}{Er:Exc->Hp->Prop}{S:SC}{OO:List (List Xn)}{σ:St}{α β:Type}
end
noncomputable def MT (A:Around)(s:Shared)(v u:Value)(b:Bool):Prop:=
 ∀(prog:Program) (w:World) (E:Value->Shared->Prop) (Q:Value->Shared->Prop),Q (.bool b) s->wpAny (model prog w) A (richCompare .Lt v u) Q E s
structure LtOk {α:Type}(r:Enc α)(lt:α->α->Bool)(d:Nat):Prop where
 at':∀{X:Cx}{pins:List (Addr×Obj)}{σ:St}{H:Hp}{s:Shared}{x y:V}{v u:Value}{a b:α}{A:Around},Inv X pins σ H s->XW x v->XW y u->r X.K H x a->r X.K H y b->A.units+d<cLine->MT A s v u (lt a b)
noncomputable def ltI (a b:Int):Bool:=decide (a<b)
theorem lt_int:LtOk Xb ltI 0:=⟨fun {X pins σ H s x y v u a b A} I rx ry h1 h2 _ prog w E Q q=>by
 have e1:x=V.int a:=h1
 have e2:y=V.int b:=h2
 subst e1 e2
 obtain⟨t,rfl⟩:=rx
 obtain⟨t',rfl⟩:=ry
 exact CmpOf.ints_lt (P:=λj v=>∃ t,v= .int (if j=0 then a else b) t) (λj=>if j=0 then a else b) (λ_ _ h=>h) 0 1 _ _ _ _ _ ⟨t,rfl⟩ ⟨t',rfl⟩ q⟩
section
variable {α:Type}[DecidableEq α]{r:Enc α}{lt:α->α->Bool}{d:Nat}
theorem LtOk.imp {q:Enc α}(L:LtOk r lt d)(h:∀{K:PySem.W.Frag}{H:Hp}{v:V}{a:α},q K H v a->r K H v a):LtOk q lt d:=⟨λI rx ry h1 h2 hu=>L.at' I rx ry (h h1) (h h2) hu⟩
end
section
variable {α:Type}
noncomputable def kp (kf:Value->α)(d:α)(xs:Array Keyed)(i:Nat):α:=(xs[i]?.map λp=>kf p.1).getD d
theorem Bk {kf:Value->α}{d:α}{xs ys:Array Keyed}{i j:Nat}(h:xs[i]?=ys[j]?):kp kf d xs i=kp kf d ys j:=by unfold kp;rw[h]
structure Ord (lt:α->α->Bool):Prop where
 irr:∀a,lt a a=false
 tr:∀{a b c},lt a b=true->lt b c=true->lt a c=true
structure SB (κ:SortKind)(a0:Array Keyed)(st:SortSt):Prop where
 perm:(arrOf st).Perm a0
 kind:kindOf st=κ
 failed:failedOf st=none
 pend:pendingOf st= #[]
theorem SB.size {κ:SortKind}{a0:Array Keyed}{st:SortSt}(h:SB κ a0 st):(arrOf st).size=a0.size:=h.perm.size_eq
theorem SB.setArr {κ:SortKind}{a0:Array Keyed}{st:SortSt}(h:SB κ a0 st){xs:Array Keyed}(hp:xs.Perm (arrOf st)):SB κ a0 (setArr st xs):=⟨hp.trans h.perm,h.kind,h.failed,h.pend⟩
structure Asks (prog:Program)(w:World)(A:Around)(E:Value->Shared->Prop)(s:Shared)(κ:SortKind)(lt:α->α->Bool)(kf:Value->α)(d:α)(a0:Array Keyed):Prop extends Ord lt where
 ask:∀{st:SortSt}{i j:Nat}{Q:Option Bool->SortSt->Prop},SB κ a0 st->i<a0.size->j<a0.size->Q (some (lt (kp kf d (arrOf st) i) (kp kf d (arrOf st) j))) st->wpS (model prog w) A E s (ltAt' i j) Q st
 two:∀{st:SortSt}{i j:Nat},SB κ a0 st->i<a0.size->j<a0.size->i≠j->lt (kp kf d (arrOf st) i) (kp kf d (arrOf st) j)=true∨lt (kp kf d (arrOf st) j) (kp kf d (arrOf st) i)=true
variable {prog:Program}{w:World}{A:Around}{E:Value->Shared->Prop}{s:Shared}{κ:SortKind}{lt:α->α->Bool}{kf:Value->α}{d:α}{a0:Array Keyed}
noncomputable def Ris (lt:α->α->Bool)(k:Nat->α)(n:Nat):Prop:=∀ i j,i<j->j<n->lt (k i) (k j)=true
noncomputable def Fal (lt:α->α->Bool)(k:Nat->α)(n:Nat):Prop:=∀ i j,i<j->j<n->lt (k j) (k i)=true
theorem Ris.more (O:Ord lt){k:Nat->α}{n:Nat}(h:Ris lt k n)(q:0<n->lt (k (n-1)) (k n)=true):Ris lt k (n+1):=λi j hij hj=>by
 rcases Nat.lt_or_ge j n with z |z
 ·exact h i j hij z
 ·have e:j=n:=by omega
  subst e
  rcases Nat.lt_or_ge i (j-1) with y |y
  ·exact O.tr (h i (j-1) y (by omega)) (q (by omega))
  ·rw[show i=j-1 by omega];exact q (by omega)
theorem Fal.more (O:Ord lt){k:Nat->α}{n:Nat}(h:Fal lt k n)(q:0<n->lt (k n) (k (n-1))=true):Fal lt k (n+1):=λi j hij hj=>by
 rcases Nat.lt_or_ge j n with z |z
 ·exact h i j hij z
 ·have e:j=n:=by omega
  subst e
  rcases Nat.lt_or_ge i (j-1) with y |y
  ·exact O.tr (q (by omega)) (h i (j-1) y (by omega))
  ·rw[show i=j-1 by omega];exact q (by omega)
theorem Asks.other (L:Asks prog w A E s κ lt kf d a0){st:SortSt}{i j:Nat}(B:SB κ a0 st)(hi:i<a0.size)(hj:j<a0.size)(n:i≠j)(h:lt (kp kf d (arrOf st) i) (kp kf d (arrOf st) j)=false):lt (kp kf d (arrOf st) j) (kp kf d (arrOf st) i)=true:=(L.two B hi hj n).resolve_left (by rw[h];decide)
theorem Fz {xs:Array Keyed}{n i:Nat}(hn:n<=xs.size)(hi:i<n):kp kf d (mirror xs 0 n ((n-0)/2)) i=kp kf d xs (n-1-i):=by
 have e:=getElem?_mirror_all (i:=0) hn i
 rw[if_pos ⟨Nat.zero_le _,hi⟩,Nat.zero_add] at e
 exact Bk e
theorem Ln (O:Ord lt){xs:Array Keyed}{k l:Nat}(hk:k<xs.size)(hl:l<=k)(R:Ris lt (kp kf d xs) k)(lo:∀i,i<l->lt (kp kf d xs i) (kp kf d xs k)=true)(hi:∀i,l<=i->i<k->lt (kp kf d xs k) (kp kf d xs i)=true):Ris lt (kp kf d (bubble xs k (k-l))) (k+1):=by
 have g:∀p,kp kf d (bubble xs k (k-l)) p=if p=l then kp kf d xs k else if l<p/\p<=k then kp kf d xs (p-1) else kp kf d xs p:=λp=>by
  have e:=getElem?_bubble hk (k-l) (by omega) p
  rw[show k-(k-l)=l by omega] at e
  by_cases h1:p=l
  ·rw[if_pos h1] at e⊢;exact Bk e
  ·rw[if_neg h1] at e⊢
   by_cases h2:l<p/\p<=k
   ·rw[if_pos h2] at e⊢;exact Bk e
   ·rw[if_neg h2] at e⊢;exact Bk e
 intro i j hij hj
 rw[g,g]
 rcases Nat.lt_trichotomy i l with hi' |hi' |hi'
 ·rw[if_neg (by omega),if_neg (by omega)]
  rcases Nat.lt_trichotomy j l with hj' |hj' |hj'
  ·rw[if_neg (by omega),if_neg (by omega)];exact R i j hij (by omega)
  ·rw[if_pos hj'];exact lo i hi'
  ·rw[if_neg (by omega),if_pos (by omega)];exact R i (j-1) (by omega) (by omega)
 ·rw[if_pos hi',if_neg (by omega),if_pos (by omega)];exact hi (j-1) (by omega) (by omega)
 ·rw[if_neg (by omega),if_pos (by omega),if_neg (by omega),if_pos (by omega)];exact R (i-1) (j-1) (by omega) (by omega)
end
section
variable {α β γ:Type}
theorem U7 {f:α->β}{l' k:List β}(h:l'.Perm k):∀{l:List α},k=l.map f->∃m:List α,m.Perm l/\m.map f=l':=by
 induction h with
 |nil=>intro l e;cases l with
  |nil=>exact⟨[], .nil,rfl⟩
  |cons a l=>cases e
 |cons x _ ih=>intro l e;cases l with
  |nil=>cases e
  |cons a l=>
   injection e with e1 e2
   obtain⟨m,hm,em⟩:=ih e2
   exact⟨a::m,hm.cons a,by rw[List.map_cons,em,e1]⟩
 |swap x y t=>intro l e;cases l with
  |nil=>cases e
  |cons a l=>cases l with
   |nil=>cases e
   |cons b l=>
    injection e with e1 e2
    injection e2 with e2 e3
    exact⟨b::a::l, .swap ..,by rw[List.map_cons,List.map_cons,e1,e2,e3]⟩
 |trans _ _ ih1 ih2=>
  intro l e
  obtain⟨m2,h2,e2⟩:=ih2 e
  obtain⟨m1,h1,e1⟩:=ih1 e2.symm
  exact⟨m1,h1.trans h2,e1⟩
structure OrdT (lt:α->α->Bool):Prop extends Ord lt where
 tot:∀{a b},a≠b->lt a b=true∨lt b a=true
section
variable [DecidableEq α]{lt:α->α->Bool}
end
noncomputable def Ii (lt:α->α->Bool)(a:α):List α->List α
 | []=>[a]
 |b::l=>if lt a b=true then a::b::l else b::Ii lt a l
noncomputable def Q4 (lt:α->α->Bool)(l:List α):List α:=l.foldr (Ii lt) []
theorem Jy (lt:α->α->Bool)(a:α):∀l,(Ii lt a l).Perm (a::l)
 | []=>.refl _
 |b::l=>by
  rw[Ii]
  split
  ·exact .refl _
  ·exact((Jy lt a l).cons b).trans (.swap ..)
theorem ZX (lt:α->α->Bool):∀l:List α,(Q4 lt l).Perm l
 | []=>.refl _
 |a::l=>(Jy lt a _).trans ((ZX lt l).cons a)
theorem U0 {lt:α->α->Bool}(O:OrdT lt){a:α}:∀{l:List α},(∀b∈l,a≠b)->l.Pairwise (λx y=>lt x y=true)->(Ii lt a l).Pairwise λx y=>lt x y=true
 | [],_,_=>List.pairwise_singleton ..
 |b::l,hn,h=>by
  rw[List.pairwise_cons] at h
  rw[Ii]
  split
  ·rename_i hab
   refine List.pairwise_cons.mpr ⟨λc hc=>?_,List.pairwise_cons.mpr h⟩
   rcases List.mem_cons.mp hc with z |z
   ·rw[z];exact hab
   ·exact O.tr hab (h.1 c z)
  ·rename_i hab
   refine List.pairwise_cons.mpr ⟨λc hc=>?_,U0 O (λc hc=>hn c (List.mem_cons_of_mem _ hc)) h.2⟩
   rcases List.mem_cons.mp ((Jy lt a l).mem_iff.mp hc) with z |z
   ·rw[z];exact(O.tot (hn b List.mem_cons_self)).resolve_left hab
   ·exact h.1 c z
theorem Vt {lt:α->α->Bool}(O:OrdT lt):∀{l:List α},l.Nodup->(Q4 lt l).Pairwise λx y=>lt x y=true
 | [],_=>.nil
 |a::l,h=>by
  rw[List.nodup_cons] at h
  exact U0 O (λb hb e=>h.1 ((ZX lt l).mem_iff.mp (e▸hb))) (Vt O h.2)
theorem Go {lt:α->α->Bool}(O:OrdT lt){a b:List α}(hn:b.Nodup)(h:a.Perm b)(r:a.Pairwise λx y=>lt x y=true):a=Q4 lt b:=
 List.Perm.eq_of_pairwise (le:=λx y=>lt x y=true) (λx y _ _ h1 h2=>by have:=O.tr h1 h2;rw[O.irr] at this;cases this) r (Vt O hn) (h.trans (ZX lt b).symm)
end
section
variable {prog:Program}{w:World}{A:Around}{E:Value->Shared->Prop}{s:Shared}{α:Type}
noncomputable def mid (h:Heap)(a:Addr)(vs:List Value):Heap:=((h.update a (Obj.mapSeq λ_=>#[])).push (seqObj "tuple" vs.toArray 0)).push (seqObj "list" #[] 0)
theorem EQ {h:Heap}{a b:Addr}{vs:List Value}{o:Obj}(hne:b≠a)(hb:h.get? b=some o):(mid h a vs).get? b=some o:=by
 have hlt:=Heap.lt_size hb
 unfold mid
 rw[Heap.get?_push_ne _ _ _ (by rw[size_push',Heap.size_update];exact Nat.ne_of_lt (Nat.lt_succ_of_lt hlt)),Heap.get?_push_ne _ _ _ (by rw[Heap.size_update];exact Nat.ne_of_lt hlt),Heap.get?_update_ne _ _ _ _ hne]
 exact hb
end
section
variable {X:Cx}{β:Type}[DecidableEq β]{r:Enc β}{lt:β->β->Bool}{d:Nat}
end
section
variable {X:Cx}{α:Type}
end
section
variable {K:PySem.W.Frag}{Er:Exc->Hp->Prop}{S:SC}{OO OO':List (List Xn)}{σ:St}{α β γ δ:Type}
theorem P3.tri {F:α->β->γ->Prop}:∀{l m n},P3 F l m n->∃T:List (α×β×γ),T.map (·.1)=l/\T.map (·.2.1)=m/\T.map (·.2.2)=n/\∀t∈T,F t.1 t.2.1 t.2.2:=λp=>by
 induction p with
 |nil=>exact⟨[],rfl,rfl,rfl,λt h=>nomatch h⟩
 |cons r _ ih=>
  obtain⟨T,e1,e2,e3,h⟩:=ih
  exact⟨(_,_,_)::T,by rw[List.map_cons,e1],by rw[List.map_cons,e2],by rw[List.map_cons,e3],λt ht=>(List.mem_cons.mp ht).elim (λz=>z▸r) (h t)⟩
theorem P3.oft {F:α->β->γ->Prop}:∀{T:List (α×β×γ)},(∀t∈T,F t.1 t.2.1 t.2.2)->P3 F (T.map (·.1)) (T.map (·.2.1)) (T.map (·.2.2)):=fun {T}=>by
 induction T with
 |nil=>intro _;exact .nil
 |cons t T ih=>intro h;exact .cons (h t List.mem_cons_self) (ih λu hu=>h u (List.mem_cons_of_mem _ hu))
theorem HE {a a':List α}{b b':List β}(h:a.zip b=a'.zip b')(h1:a.length=b.length)(h2:a'.length=b'.length):a=a'/\b=b':=by
 have e1:=congrArg (List.map Prod.fst) h
 have e2:=congrArg (List.map Prod.snd) h
 rw[List.map_fst_zip (by omega),List.map_fst_zip (by omega)] at e1
 rw[List.map_snd_zip (by omega),List.map_snd_zip (by omega)] at e2
 exact⟨e1,e2⟩
theorem P3.perm {F:α->β->γ->Prop}{l zs:List α}{m bs:List β}{n:List γ}(p:P3 F l m n)(h:(zs.zip bs).Perm (l.zip m))(hl:zs.length=bs.length):∃n',P3 F zs bs n'/\n'.Perm n:=by
 obtain⟨T,e1,e2,e3,hT⟩:=p.tri
 have ez:T.map (λt=>(t.1,t.2.1))=l.zip m:=by rw[←e1, ←e2,List.zip_map']
 obtain⟨T',hp,e⟩:=U7 h ez.symm
 have:(T'.map (·.1)).zip (T'.map (·.2.1))=zs.zip bs:=by rw[List.zip_map'];exact e
 obtain⟨f1,f2⟩:=HE this (by simp) hl
 refine⟨T'.map (·.2.2),?_,by rw[←e3];exact hp.map _⟩
 rw[←f1, ←f2]
 exact P3.oft λt ht=>hT t (hp.mem_iff.mp ht)
end
section
variable {K:PySem.W.Frag}{Er:Exc->Hp->Prop}{S:SC}{OO OO':List (List Xn)}{σ:St}{α β:Type}{u:TS}{Fd:Ends->β->Hp->Prop}[fd:FdOk Fd]
end
section
variable {K:PySem.W.Frag}{Er:Exc->Hp->Prop}{S:SC}{OO OO':List (List Xn)}{σ:St}{α1 α2 β ρ:Type}{u:TS}
theorem W.one {H:Hp}(w:W OO H):W [OO.flatten] H:=w.of (by simp)
end
section
variable {K:PySem.W.Frag}{Er:Exc->Hp->Prop}{S:SC}{OO OO':List (List Xn)}{σ:St}{α α2 β γ ρ:Type}
variable {Fd:Ends->β->Hp->Prop}[fd:FdOk Fd]{u:TS}
end
section
variable {prog:Program}{w:World}{A:Around}{E:Value->Shared->Prop}{s:Shared}
end
section
variable {X:Cx}
end
section
variable {K:PySem.W.Frag}{Er:Exc->Hp->Prop}{S:SC}{OO OO':List (List Xn)}{σ:St}{α β γ:Type}
end
section
variable {X:Cx}{α:Type}{r:Enc α}{lt:α->α->Bool}{d:Nat}
end
section
variable {K:PySem.W.Frag}{Er:Exc->Hp->Prop}{S:SC}{OO OO':List (List Xn)}{σ:St}{α:Type}
end
section
variable {X:Cx}{pins:List (Addr×Obj)}{σ:St}{H:Hp}{s0:Shared}
noncomputable def EU (X:Cx)(g:Heap)(d:Addr)(xs:List (List Key×Addr×Value)):Prop:=∃ o es ep,g.get? d=some o/\o.ExactDict/\o.data= .dict es ep/\es.toList=xs.map (entryOfKey (tupleKind (X1 X.prog X.w)))/\(xs.map (·.1)).Nodup
theorem EU.h {g:Heap}{tk:Nat}{d:Addr}{acc:List (List Key×V)}{xs:List (List Key×Addr×Value)}(D:EU X g d xs)(I:Inv X pins σ H {s0 with heap:=g,toks:=tk})(r:KT H acc xs):g.DictOfH (tupleKind (X1 X.prog X.w)) d xs:=by
 obtain⟨o,es,ep,h1,h2,h3,h4,h5⟩:=D
 refine⟨o,es,ep,h1,h2,h3,h4,λx hx=>?_,h5⟩
 have all:∀{l:List (List Key×V)}{m:List (List Key×Addr×Value)},KT H l m->∀x∈m,(tupleKind (X1 X.prog X.w)).is g x.1 x.2.1:=by
  intro l m q
  induction q with
  |nil=>intro x hx;exact nomatch hx
  | @cons p q ps qs hq t ih=>
   intro x hx
   rcases List.mem_cons.mp hx with e |hx
   ·subst e
    exact Vp I.hok (by rw[←hq.1];exact hq.2.1)
   ·exact ih x hx
 exact all r x hx
theorem EU.of {g:Heap}{d:Addr}{xs:List (List Key×Addr×Value)}(D:g.DictOfH (tupleKind (X1 X.prog X.w)) d xs):EU X g d xs:=by
 obtain⟨o,es,ep,h1,h2,h3,h4,_,h5⟩:=D
 exact⟨o,es,ep,h1,h2,h3,h4,h5⟩
theorem EU.at {g g':Heap}{d:Addr}{xs:List (List Key×Addr×Value)}(D:EU X g d xs)(k:∀o,g.get? d=some o->g'.get? d=some o):EU X g' d xs:=by
 obtain⟨o,es,ep,h1,r⟩:=D
 exact⟨o,es,ep,k o h1,r⟩
end
section
variable {K:PySem.W.Frag}{Er:Exc->Hp->Prop}{S:SC}{OO OO':List (List Xn)}{σ:St}{α β γ:Type}
end
section
variable {K:PySem.W.Frag}{Er:Exc->Hp->Prop}{S:SC}{OO:List (List Xn)}{σ:St}{α1 α2 α3 α4 α5 ρ:Type}{mg:Str->Option Value}{E:XK}
end
section
variable {X:Cx}{o e:Expr}{es:List Expr}{to:TE}{t:TA}{name:Str}{apos cpos:Pos}{id:String}{r:V->List V->Hp->VK->Prop}
end
section
variable {K:PySem.W.Frag}{Er:Exc->Hp->Prop}{S:SC}{OO:List (List Xn)}{σ:St}
end
section
variable {α β γ δ:Type}{K:PySem.W.Frag}{Er:Exc->Hp->Prop}{S:SC}{OO:List (List Xn)}{σ:St}{Fd:Ends->β->Hp->Prop}[fd:FdOk Fd]{u:TS}
end
end L2
namespace HT
open PySem PySem.Spec PyProof PyProof.Rows
section
variable {prog:Program}{w:World}{A:Around}{E:Value->Shared->Prop}{s:Shared}
end
end HT
namespace L2
open PySem PySem.Spec PyProof.Rows
section
variable {X:Cx}{e:Expr}{te:TE}
end
section
variable {α β:Type}{K:PySem.W.Frag}{Er:Exc->Hp->Prop}{S:SC}{OO:List (List Xn)}{σ:St}
end
section
variable {α β:Type}{K:PySem.W.Frag}{Er:Exc->Hp->Prop}{S:SC}{OO:List (List Xn)}{σ:St}{Fd:Ends->β->Hp->Prop}[fd:FdOk Fd]{u:TS}
end
section
variable {K:PySem.W.Frag}{Er:Exc->Hp->Prop}{S:SC}{OO OO' OO2:List (List Xn)}{σ:St}{α β γ ρ ι:Type}{mg:Str->Option Value}{E:XK}{u:TS}
end
section
variable {α:Type}
structure SBk (κ:SortKind)(a₀:Array Keyed)(st:SortSt):Prop where
 perm:(arrOf st).Perm a₀
 kind:kindOf st=κ
 failed:failedOf st=none
 pend:pendingOf st= #[]
theorem SBk.size {κ:SortKind}{a₀:Array Keyed}{st:SortSt}(h:SBk κ a₀ st):(arrOf st).size=a₀.size:=h.perm.size_eq
theorem SBk.setArr {κ:SortKind}{a₀:Array Keyed}{st:SortSt}(h:SBk κ a₀ st){xs:Array Keyed}(hp:xs.Perm (arrOf st)):SBk κ a₀ (setArr st xs):=
 ⟨hp.trans h.perm,h.kind,h.failed,h.pend⟩
structure AskK (prog:Program)(w:World)(A:Around)(E:Value->Shared->Prop)(s:Shared)(lt:α->α->Bool)(kf:Value->α)(d:α)(a0:Array Keyed)(κ:SortKind):Prop extends Ord lt where
 ask:∀{st:SortSt}{i j:Nat}{Q:Option Bool->SortSt->Prop},SBk κ a0 st->i<a0.size->j<a0.size->Q (some (lt (kp kf d (arrOf st) i) (kp kf d (arrOf st) j))) st->wpS (model prog w) A E s (ltAt' i j) Q st
 two:∀{st:SortSt}{i j:Nat},SBk κ a0 st->i<a0.size->j<a0.size->i≠j->lt (kp kf d (arrOf st) i) (kp kf d (arrOf st) j)=true∨lt (kp kf d (arrOf st) j) (kp kf d (arrOf st) i)=true
variable {prog:Program}{w:World}{A:Around}{E:Value->Shared->Prop}{s:Shared}{lt:α->α->Bool}{kf:Value->α}{d:α}{a0:Array Keyed}{κ:SortKind}
theorem AskK.other (L:AskK prog w A E s lt kf d a0 κ){st:SortSt}{i j:Nat}(B:SBk κ a0 st)(hi:i<a0.size)(hj:j<a0.size)(n:i≠j)(h:lt (kp kf d (arrOf st) i) (kp kf d (arrOf st) j)=false):lt (kp kf d (arrOf st) j) (kp kf d (arrOf st) i)=true:=(L.two B hi hj n).resolve_left (by rw[h];decide)
theorem FM (L:AskK prog w A E s lt kf d a0 κ){st:SortSt}{a m:Nat}{Q:AscSt->SortSt->Prop}(B:SBk κ a0 st)(hm:m<=a0.size)(h1:1<=a)(ham:a<=m)(R:Ris lt (kp kf d (arrOf st)) a)
  (q:∀n,a<=n->n<=m->Ris lt (kp kf d (arrOf st)) n->(n≠m->lt (kp kf d (arrOf st) n) (kp kf d (arrOf st) (n-1))=true)->Q (none,n) st):wpS (model prog w) A E s (ascLoop a m) Q st:=by
 unfold ascLoop
 refine wpS_forRange (I:=λx c t=>t=st/\c=(none,x)/\Ris lt (kp kf d (arrOf st)) x) ?_ ?_ ⟨rfl,rfl,R⟩
 ·intro x c t hx hxm hI
  obtain⟨rfl,rfl,R'⟩:=hI
  refine wpS_bind (L.ask B (by omega) (by omega) ?_)
  cases e:lt (kp kf d (arrOf t) x) (kp kf d (arrOf t) (x-1)) with
  |true=>exact wpS_pure (q x hx (by omega) R' λ_=>e)
  |false=>exact wpS_pure ⟨rfl,rfl,R'.more L.toOrd λ_=>L.other B (by omega) (by omega) (by omega) e⟩
 ·intro c t hI
  obtain⟨rfl,rfl,R'⟩:=hI
  have e:max a m=m:=by omega
  rw[e] at R'⊢
  exact q m ham (Nat.le_refl _) R' λz=>absurd rfl z
theorem Cb (L:AskK prog w A E s lt kf d a0 κ){st:SortSt}{a m:Nat}{Q:DescSt->SortSt->Prop}(B:SBk κ a0 st)(hm:m<=a0.size)(h1:1<=a)(ham:a<=m)(R:Fal lt (kp kf d (arrOf st)) a)
  (q:∀n,a<=n->n<=m->Fal lt (kp kf d (arrOf st)) n->Q (none,n,0) st):wpS (model prog w) A E s (descLoop a m) Q st:=by
 unfold descLoop
 refine wpS_forRange (I:=λx c t=>t=st/\c=(none,x,0)/\Fal lt (kp kf d (arrOf st)) x) ?_ ?_ ⟨rfl,rfl,R⟩
 ·intro x c t hx hxm hI
  obtain⟨rfl,rfl,R'⟩:=hI
  show wpS _ _ _ _ (ltAt' x (x-1) >>= _) _ _
  refine wpS_bind (L.ask B (by omega) (by omega) ?_)
  cases e:lt (kp kf d (arrOf t) x) (kp kf d (arrOf t) (x-1)) with
  |true=>exact wpS_pure ⟨rfl,rfl,R'.more L.toOrd λ_=>e⟩
  |false=>
   show wpS _ _ _ _ (ltAt' (x-1) x >>= _) _ _
   refine wpS_bind (L.ask B (by omega) (by omega) ?_)
   rw[L.other B (by omega) (by omega) (by omega) e]
   exact wpS_pure (q x hx (by omega) R')
 ·intro c t hI
  obtain⟨rfl,rfl,R'⟩:=hI
  have e:max a m=m:=by omega
  rw[e] at R'⊢
  exact q m ham (Nat.le_refl _) R'
theorem Hw (L:AskK prog w A E s lt kf d a0 κ){st:SortSt}{m:Nat}{Q:Option Nat->SortSt->Prop}(B:SBk κ a0 st)(hm:m<=a0.size)(h1:1<=m)
  (q:∀n t,SBk κ a0 t->n<=m->Ris lt (kp kf d (arrOf t)) n->Q (some n) t):wpS (model prog w) A E s (countRun' 0 m) Q st:=by
 rw[countRun0_eq]
 refine wpS_bind (FM L B hm (Nat.le_refl 1) h1 (λi j hij hj=>by omega) λn hn hnm R z=>?_)
 show wpS _ _ _ _ (if(n==m)=true then _ else _) _ _
 by_cases e:n=m
 ·subst e
  rw[if_pos (beq_self_eq_true n)]
  exact wpS_pure (q n st B (Nat.le_refl _) R)
 ·rw[if_neg (by rw[beq_eq_false_iff_ne.mpr e];decide)]
  have z:=z e
  by_cases g:n > 1
  ·show wpS _ _ _ _ (if n > 1 then _ else _) _ _
   rw[if_pos g]
   show wpS _ _ _ _ (ltAt' 0 (n-1) >>= _) _ _
   refine wpS_bind (L.ask B (by omega) (by omega) ?_)
   rw[show lt (kp kf d (arrOf st) 0) (kp kf d (arrOf st) (n-1))=true from R 0 (n-1) (by omega) (by omega)]
   exact wpS_pure (q n st B hnm R)
  ·have e1:n=1:=by omega
   subst e1
   show wpS _ _ _ _ (descPart 1 m) _ _
   unfold descPart
   refine wpS_bind (wpS_lift (wpAny_rule ⟨rfl,?_⟩))
   have F2:Fal lt (kp kf d (arrOf st)) 2:=Fal.more L.toOrd (n:=1) (λi j hij hj=>by omega) λ_=>z
   refine wpS_bind (Cb L B hm (by omega) (by omega) F2 λn hn2 hnm2 F=>?_)
   show wpS _ _ _ _ (tail3 n m) _ _
   unfold tail3
   refine wpS_bind (wpS_reverse ?_)
   have B2:SBk κ a0 (setArr st (mirror (arrOf st) 0 n ((n-0)/2))):=B.setArr (mirror_perm _ _ _ _)
   have hsz:n<=(arrOf st).size:=by rw[B.size];omega
   refine wpS_bind (FM L B2 hm (by omega) hnm2 (λi j hij hj=>?_) λk _ hk R2 _=>wpS_pure (q k _ B2 hk R2))
   show lt (kp kf d (mirror (arrOf st) 0 n ((n-0)/2)) i) (kp kf d (mirror (arrOf st) 0 n ((n-0)/2)) j)=true
   rw[Fz hsz (by omega),Fz hsz hj]
   exact F (n-1-j) (n-1-i) (by omega) (by omega)
theorem ES (L:AskK prog w A E s lt kf d a0 κ){st:SortSt}{n ok:Nat}{Q:Bool->SortSt->Prop}(B:SBk κ a0 st)(hn:n<=a0.size)(hok:ok<=n)(R:Ris lt (kp kf d (arrOf st)) ok)
  (q:∀t,SBk κ a0 t->Ris lt (kp kf d (arrOf t)) n->Q true t):wpS (model prog w) A E s (binarySort' 0 n ok) Q st:=by
 rw[binarySort'_eq]
 simp only[Nat.zero_add]
 refine wpS_bind (wpS_mono (wpS_forRange (I:=λk c t=>c=(none,())/\SBk κ a0 t/\Ris lt (kp kf d (arrOf t)) (if k<=n then k else n)) (Q:=λc t=>c=(none,())/\SBk κ a0 t/\Ris lt (kp kf d (arrOf t)) n) ?_ ?_ ?_) ?_)
 ·intro k c t hk hkn hI
  obtain⟨rfl,Bt,Rt⟩:=hI
  rw[if_pos (Nat.le_of_lt hkn)] at Rt
  refine wpS_bind (wpS_mono (wpS_forRange (I:=λx c u=>u=t/\∃l r,c=(none,l,r)/\l<=r/\r<=k/\r+x<=k+l/\(∀i,i<l->lt (kp kf d (arrOf t) i) (kp kf d (arrOf t) k)=true)/\(∀i,r<=i->i<k->lt (kp kf d (arrOf t) k) (kp kf d (arrOf t) i)=true))
   (Q:=λc u=>u=t/\∃l,c=(none,l,l)/\l<=k/\(∀i,i<l->lt (kp kf d (arrOf t) i) (kp kf d (arrOf t) k)=true)/\(∀i,l<=i->i<k->lt (kp kf d (arrOf t) k) (kp kf d (arrOf t) i)=true)) ?_ ?_ ?_) ?_)
  ·intro x c u _ hx hI
   obtain⟨rfl,l,r,rfl,hlr,hrk,hm,lo,hi⟩:=hI
   by_cases hge:l≥r
   ·have e:r=l:=by omega
    subst e
    show wpS _ _ _ _ (if r≥r then _ else _) _ _
    rw[if_pos (Nat.le_refl _)]
    exact wpS_pure ⟨rfl,r,rfl,hrk,lo,hi⟩
   ·show wpS _ _ _ _ (if l≥r then _ else _) _ _
    rw[if_neg hge]
    show wpS _ _ _ _ (ltAt' k ((l+r)/2) >>= _) _ _
    refine wpS_bind (L.ask Bt (by omega) (by omega) ?_)
    cases e:lt (kp kf d (arrOf u) k) (kp kf d (arrOf u) ((l+r)/2)) with
    |true=>
     refine wpS_pure ⟨rfl,l,(l+r)/2,rfl,by omega,by omega,by omega,lo,λi h1 h2=>?_⟩
     rcases Nat.eq_or_lt_of_le h1 with y |y
     ·rw[←y];exact e
     ·exact L.tr e (Rt _ _ y h2)
    |false=>
     have e':=L.other Bt (by omega) (by omega) (by omega) e
     refine wpS_pure ⟨rfl,(l+r)/2+1,r,rfl,by omega,by omega,by omega,λi h1=>?_,hi⟩
     rcases Nat.eq_or_lt_of_le (Nat.le_of_lt_succ h1) with y |y
     ·rw[y];exact e'
     ·exact L.tr (Rt _ _ y (by omega)) e'
  ·intro c u hI
   obtain⟨rfl,l,r,rfl,hlr,hrk,hm,lo,hi⟩:=hI
   have e:r=l:=by omega
   subst e
   exact⟨rfl,r,rfl,hrk,lo,hi⟩
  ·exact⟨rfl,0,k,rfl,by omega,by omega,by omega,λi hi=>by omega,λi h1 h2=>by omega⟩
  ·intro c u hI
   obtain⟨rfl,l,rfl,hlk,lo,hi⟩:=hI
   show wpS _ _ _ _ (moveDown' k l >>= _) _ _
   rw[moveDown'_eq]
   refine wpS_bind (wpS_modify (wpS_pure ⟨rfl,Bt.setArr (bubble_perm _ _ _),?_⟩))
   rw[if_pos (show k+1<=n from hkn)]
   exact Ln L.toOrd (by rw[Bt.size];omega) hlk Rt lo hi
 ·intro c t hI
  obtain⟨hc,Bt,Rt⟩:=hI
  refine⟨hc,Bt,?_⟩
  have e:(if max (max ok 1) n<=n then max (max ok 1) n else n)=n:=by split<;> omega
  rwa [e] at Rt
 ·refine⟨rfl,B,λi j hij hj=>?_⟩
  refine R i j hij ?_
  split at hj<;> omega
 ·intro c t hI
  obtain⟨rfl,Bt,Rt⟩:=hI
  exact wpS_pure (q t Bt Rt)
theorem CZ (L:AskK prog w A E s lt kf d a0 κ){st:SortSt}{Q:Unit->SortSt->Prop}(B:SBk κ a0 st)(h2:2<=a0.size)(h64:a0.size<64)
  (q:∀t,(arrOf t).Perm a0->failedOf t=none->Ris lt (kp kf d (arrOf t)) a0.size->Q () t):wpS (model prog w) A E s sortRuns' Q st:=by
 rw[sortRuns'_eq]
 refine wpS_bind (wpS_get ?_)
 have hmr:minRun' a0.size a0.size 0=a0.size:=by
  cases e:a0.size with
  |zero=>omega
  |succ f=>rw[minRun'_succ,if_pos (by omega)]
 have hs:=B.size
 show wpS _ _ _ _ (forIn [0:(arrOf st).size] _ _ >>= _) _ _
 rw[hs,hmr]
 let Dn:SortSt->Prop:=λt=>(arrOf t).Perm a0/\failedOf t=none/\pendingOf t= #[(0,a0.size,0)]/\Ris lt (kp kf d (arrOf t)) a0.size
 have fin:∀t,SBk κ a0 t->Ris lt (kp kf d (arrOf t)) a0.size->Dn (setPending t ((pendingOf t).push (0,a0.size,0))):=λt Bt Rt=>⟨Bt.perm,Bt.failed,by show(pendingOf t).push _=_;rw[Bt.pend];rfl,Rt⟩
 refine wpS_bind (wpS_mono (wpS_forRange (I:=λx c t=>if x=0 then c=(none,0)/\SBk κ a0 t else c=(none,a0.size)/\Dn t) (Q:=λc t=>c=(none,a0.size)/\Dn t) ?_ ?_ ?_) ?_)
 ·intro x c t _ hx hI
  by_cases hx0:x=0
  ·rw[if_pos hx0] at hI
   obtain⟨rfl,Bt⟩:=hI
   show wpS _ _ _ _ (if 0≥a0.size then _ else _) _ _
   rw[if_neg (by omega)]
   refine wpS_bind (Hw L Bt (by omega) (by omega) λm u Bu hm Ru=>?_)
   have hb:∀v,SBk κ a0 v->(pendingOf v).back?=none:=λv Bv=>by rw[Bv.pend];rfl
   by_cases hlt:m<a0.size
   ·show wpS _ _ _ _ (if m<a0.size then _ else _) _ _
    rw[if_pos hlt]
    refine wpS_bind (wpS_lift (wpAny_rule ⟨rfl,?_⟩))
    rw[Nat.sub_zero,Nat.min_self]
    refine wpS_bind (ES L Bu (Nat.le_refl _) hm Ru λv Bv Rv=>?_)
    show wpS _ _ _ _ (get >>= _) _ _
    refine wpS_bind (wpS_get ?_)
    rw[hb v Bv]
    refine wpS_bind (wpS_modify (wpS_pure ?_))
    show if x+1=0 then _ else _
    rw[if_neg (by omega)]
    exact⟨by rw[Nat.zero_add],fin v Bv Rv⟩
   ·have e:m=a0.size:=by omega
    subst e
    show wpS _ _ _ _ (if a0.size<a0.size then _ else _) _ _
    rw[if_neg hlt]
    refine wpS_bind (wpS_get ?_)
    rw[hb u Bu]
    refine wpS_bind (wpS_modify (wpS_pure ?_))
    show if x+1=0 then _ else _
    rw[if_neg (by omega)]
    exact⟨by rw[Nat.zero_add],fin u Bu Ru⟩
  ·rw[if_neg hx0] at hI
   obtain⟨rfl,D⟩:=hI
   show wpS _ _ _ _ (if a0.size≥a0.size then _ else _) _ _
   rw[if_pos (Nat.le_refl _)]
   exact wpS_pure ⟨rfl,D⟩
 ·intro c t hI
  rw[if_neg (by omega)] at hI
  exact hI
 ·rw[if_pos rfl];exact⟨rfl,B⟩
 ·intro c t hI
  obtain⟨rfl,D1,D2,D3,D4⟩:=hI
  refine wpS_bind (wpS_mono (wpS_forRange (I:=λ_ c u=>u=t/\c=(none,())) (Q:=λc u=>u=t/\c=(none,())) ?_ (λ_ _ h=>h) ⟨rfl,rfl⟩) ?_)
  ·intro x c u _ _ hI
   obtain⟨rfl,rfl⟩:=hI
   refine wpS_bind (wpS_get ?_)
   rw[if_pos (by rw[D3];exact Nat.le_refl 1)]
   exact wpS_pure ⟨rfl,rfl⟩
  ·intro c u hI
   obtain⟨rfl,rfl⟩:=hI
   exact wpS_pure (q _ D1 D2 D4)
end
section
variable {prog:Program}{w:World}{A:Around}{E:Value->Shared->Prop}{s:Shared}{α:Type}
theorem Bp {κ:SortKind}{lt:α->α->Bool}{kf:Value->α}{d:α}{a:Addr}{vs:List Value}{n:Nat}{Q:Fin->Shared->Prop}(ho:s.heap.get? a=some (seqObj "list" vs.toArray n))(h64:vs.length<64)
  (hT:2<=vs.length->∀Q:SortKind->Shared->Prop,Q κ {s with heap:=mid s.heap a vs}->wpAny (model prog w) A (keyKind' vs.toArray) Q E {s with heap:=mid s.heap a vs})(L:AskK prog w A E {s with heap:=mid s.heap a vs} lt kf d (pairsOf vs) κ)
  (q:∀out:Array Keyed,out.Perm (pairsOf vs)->Ris lt (kp kf d out) vs.length->Q (.done (.ret .none)) {s with heap:=sortedHeap s.heap a vs (out.map (·.2))}):
  wpAny (model prog w) A (Builtin.«list.sort» ⟨[.ref a],[]⟩) Q E s:=by
 rw[list_sort_plain]
 have hlt:=Heap.lt_size ho
 obtain⟨e1,ho1⟩:∃e,(s.heap.update a (Obj.mapSeq λ_=>#[])).get? a=some (seqObj "list" #[] e):=⟨_,get?_update_seq ho λ_=>#[]⟩
 have ho2:(mid s.heap a vs).get? a=some (seqObj "list" #[] e1):=by
  unfold mid
  rw[Heap.get?_push_ne _ _ _ (by rw[size_push',Heap.size_update];exact Nat.ne_of_lt (Nat.lt_succ_of_lt hlt)),Heap.get?_push_ne _ _ _ (by rw[Heap.size_update];exact Nat.ne_of_lt hlt)]
  exact ho1
 refine wpAny_bind (listItems_at ho rfl (wpAny_bind (listUpdate_at ho rfl (wpAny_bind (seqEpoch_at ho1 rfl (wpAny_bind (wpAny_newTuple (wpAny_bind (wpAny_newList (wpAny_holding ?_))))))))))
 show wpAny (model prog w) A _ Q E {s with heap:=mid s.heap a vs}
 have tail:∀(st:SortSt),(arrOf st).Perm (pairsOf vs)->failedOf st=none->Ris lt (kp kf d (arrOf st)) vs.length->wpAny (model prog w) A (do
   let touched:=(←seqEpoch a) !=e1
   Builtin.List.listUpdate (.ref a) λ_=>(arrOf st).map (·.2)
   if let some e:=failedOf st then rule "list.sort.comparison-raised";throw e
   if touched then rule "list.sort.modified";raiseError "ValueError" "list modified during sort"
   ret .none) Q E {s with heap:=mid s.heap a vs}:=λst hp hf hr=>by
  refine wpAny_bind (seqEpoch_at ho2 rfl (wpAny_bind (listUpdate_at ho2 rfl ?_ (hsz2:=?_))))
  ·rw[hf]
   simp only[bne_self_eq_false,Bool.false_eq_true,if_false]
   exact wpAny_pure (q (arrOf st) hp hr)
  ·have:=hp.size_eq
   rw[pairsOf_size] at this
   rw[Array.size_map,this,sizeLine_eq];omega
 have hsz:vs.toArray.size=vs.length:=List.size_toArray
 by_cases h2:vs.toArray.size<2
 ·rw[if_pos h2,if_pos h2]
  refine wpAny_bind (wpAny_pure ?_)
  show wpAny _ _ ((pure ():StateT SortSt Sem Unit).run (SortSt.mk' general' (vs.toArray.zip vs.toArray) #[] 7 none) >>= _) _ _ _
  rw[StateT.run_pure]
  exact wpAny_bind (wpAny_pure (tail (SortSt.mk' general' (vs.toArray.zip vs.toArray) #[] 7 none) (Array.Perm.refl _) rfl λi j hij hj=>by omega))
 ·rw[if_neg h2,if_neg h2]
  refine wpAny_bind (hT (by rw[←hsz];omega) _ ?_)
  refine wpAny_bind (wpAny_mono (CZ L (st:=SortSt.mk' κ (vs.toArray.zip vs.toArray) #[] 7 none) (Q:=λ_ st=>(arrOf st).Perm (pairsOf vs)/\failedOf st=none/\Ris lt (kp kf d (arrOf st)) vs.length) ⟨Array.Perm.refl _,rfl,rfl,rfl⟩ (by rw[pairsOf_size];omega) (by rw[pairsOf_size];exact h64) λt a1 a2 a3=>⟨a1,a2,by rw[pairsOf_size] at a3;exact a3⟩) ?_ λ_ _ e=>e)
  intro p s' hh
  obtain⟨⟨⟩,st⟩:=p
  obtain⟨rfl,hp,hf,hr⟩:=hh
  exact tail st hp hf hr
end
section
noncomputable def ltP (a b:Int×Int):Bool:=if a.1=b.1 then decide (a.2<b.2) else decide (a.1<b.1)
theorem B1:OrdT ltP:=⟨⟨λa=>by simp[ltP],fun {a b c} h1 h2=>by
 unfold ltP at*
 split at h1<;> split at h2<;> split<;> simp only[decide_eq_true_eq] at* <;> omega⟩,fun {a b} h=>by
 unfold ltP
 by_cases e:a.1=b.1
 ·rw[if_pos e,if_pos e.symm,decide_eq_true_eq,decide_eq_true_eq]
  have:a.2≠b.2:=λz=>h (Prod.ext e z)
  omega
 ·rw[if_neg e,if_neg (Ne.symm e),decide_eq_true_eq,decide_eq_true_eq];omega⟩
theorem CF {x y:V}{us:List Value}(h:XR [x,y] us):∃a b,us=[a,b]/\XW x a/\XW y b:=by
 cases h with
 |cons a b=>cases b with
  |cons c d=>cases d with
   |nil=>exact⟨_,_,rfl,a,c⟩
variable {X:Cx}
open Classical in
noncomputable def kfP (T:List (Value×V×Int×Int))(v:Value):Int×Int:=if h:∃t,t∈T/\t.1=v then(Classical.choose h).2.2 else(0,0)
theorem CA {T:List (Value×V×Int×Int)}(hu:∀t u,t∈T->u∈T->t.1=u.1->t.2.2=u.2.2){t:Value×V×Int×Int}(ht:t∈T):kfP T t.1=t.2.2:=by
 have h:∃u,u∈T/\u.1=t.1:=⟨t,ht,rfl⟩
 unfold kfP
 rw[dif_pos h]
 exact hu _ _ (Classical.choose_spec h).1 ht (Classical.choose_spec h).2
theorem Ew {γ:Type}{F:Value->V->γ->Prop}:∀{its:List Value}{ys:List V}{as:List γ}{G:V->γ->Prop},Paired XW ys its->Paired G ys as->(∀v y a,XW y v->G y a->F v y a)->∃T:List (Value×V×γ),T.map (·.1)=its/\T.map (λt=>(t.2.1,t.2.2))=ys.zip as/\T.map (·.2.2)=as/\∀t∈T,F t.1 t.2.1 t.2.2
 |_,_,_,_, .nil, .nil,_=>⟨[],rfl,rfl,rfl,λt h=>nomatch h⟩
 |_,_,_,_, .cons r1 p1, .cons r2 p2,h=>by
  obtain⟨T,e1,e2,e3,hT⟩:=Ew p1 p2 h
  exact⟨(_,_,_)::T,by rw[List.map_cons,e1],by rw[List.map_cons,e2];rfl,by rw[List.map_cons,e3],λt ht=>(List.mem_cons.mp ht).elim (λz=>z▸h _ _ _ r1 r2) (hT t)⟩
theorem MF {X:Cx}{pins:List (Addr×Obj)}{σ:St}{H:Hp}{s:Shared}(I:Inv X pins σ H s):∀(T:List (Value×V×Int×Int)),(∀t∈T,XW t.2.1 t.1/\rP2 Xb Xb X.K H t.2.1 t.2.2)->∃fs,PySem.W.KatTups s.heap (T.map (·.1)) fs/\fs.length=T.length/\∀v∈fs,∃i t,v= .int i t
 | [],_=>⟨[], .nil,rfl,λv h=>nomatch h⟩
 |t::T,h=>by
  obtain⟨fs,k1,k2,k3⟩:=MF I T λu hu=>h u (List.mem_cons_of_mem _ hu)
  obtain⟨r1,a,x,y,w1,m1,h1,h2⟩:=h t List.mem_cons_self
  rw[w1] at r1
  have r1':t.1= .ref a:=r1
  obtain⟨its,rv,⟨o,g1,c1,n,d1⟩,_⟩:=I.tuple (SqT.of m1)
  have e1:x= .int t.2.2.1:=h1
  subst e1
  obtain⟨u1,us,rfl,⟨tk,e2⟩,rr⟩:∃u1 us,its=u1::us/\XW (.int t.2.2.1) u1/\XR [y] us:=by
   cases rv with
   |cons a b=>exact⟨_,_,rfl,a,b⟩
  refine⟨u1::fs,?_,by simp[k2],λv hv=>?_⟩
  ·rw[List.map_cons,r1']
   exact .cons g1 c1 d1 (by simp) k1
  ·rcases List.mem_cons.mp hv with z |z
   ·exact⟨_,_,z.trans e2⟩
   ·exact k3 v z
theorem DT {A:Around}{Er:Value->Shared->Prop}{pins:List (Addr×Obj)}{s:Shared}{σ:St}{H:Hp}{its:List Value}{ys:List V}{as:List (Int×Int)}{R:Addr->Shared->Prop}(I:Inv X pins σ H s)(rv:XR ys its)(hp:Paired (rP2 Xb Xb X.K H) ys as)(hnd:as.Nodup)(h64:as.length<64)(hu:A.units+3<cLine)
  (q:∀zs s',Inv X pins σ (upd H s.heap.objs.size (.lst zs)) s'->H s.heap.objs.size=none->(zs.zip (Q4 ltP as)).Perm (ys.zip as)->zs.length=as.length->R s.heap.objs.size s'):
  wpAny (model X.prog X.w) A (newList its >>= λl=>holding [l] (call (.builtin "list.sort") [l] []) >>= λ_=>ret l) (λfin s'=>∃ p,fin= .done (.ret (.ref p))/\R p s') Er s:=by
 obtain⟨T,e1,e2,e3,hT⟩:=Ew (F:=λv y a=>XW y v/\rP2 Xb Xb X.K H y a) rv hp λv y a h1 h2=>⟨h1,h2⟩
 have hlen:its.length=as.length:=by rw[←e1, ←e3,List.length_map,List.length_map]
 have huq:∀t u,t∈T->u∈T->t.1=u.1->t.2.2=u.2.2:=λt u ht hu' e=>by
  obtain⟨r1,l1⟩:=hT t ht
  obtain⟨r2,l2⟩:=hT u hu'
  obtain⟨b1,x1,y1,w1,m1⟩:=id l1
  obtain⟨b2,x2,y2,w2,m2⟩:=id l2
  rw[w1] at r1 l1
  rw[w2] at r2 l2
  have r1':t.1= .ref b1:=r1
  have r2':u.1= .ref b2:=r2
  rw[r1',r2'] at e
  cases e
  exact(Up eq_int eq_int).uniq I l1 l2
 refine wpAny_bind (wpAny_newList ?_ (by rw[hlen,sizeLine_eq];omega))
 let g0:=s.heap.push (seqObj "list" its.toArray 0)
 have hoL:g0.get? s.heap.objs.size=some (seqObj "list" its.toArray 0):=Heap.get?_push_size _ rfl
 have hold:∀b o,s.heap.get? b=some o->g0.get? b=some o:=λb o hb=>Heap.get?_push_of_some _ hb
 show wpAny _ _ _ _ _ {s with heap:=g0}
 have hne:∀{b o},s.heap.get? b=some o->b≠s.heap.objs.size:=λhb=>Nat.ne_of_lt (Heap.lt_size hb)
 have I2:Inv X pins σ H {s with heap:=mid g0 s.heap.objs.size its,toks:=s.toks}:=I.kept λb o hb=>EQ (hne hb) (hold b o hb)
 have hitm:∀v,v∈its->∃t,t∈T/\t.1=v:=λv hv=>by rw[←e1] at hv;exact List.mem_map.mp hv
 have htyp:∀(A:Around) (Er:Value->Shared->Prop),2<=its.length->∀Q:SortKind->Shared->Prop,Q (tuples' true) {s with heap:=mid g0 s.heap.objs.size its}->wpAny (model X.prog X.w) A (keyKind' its.toArray) Q Er {s with heap:=mid g0 s.heap.objs.size its}:=λA Er h2 Q q=>by
  obtain⟨fs,k1,k2,k3⟩:=MF I2 T λt ht=>hT t ht
  rw[e1] at k1
  refine PySem.W.kat_kind (T:=.type "int") k1 (by rw[k2, ←List.length_map (f:=(·.1)),e1];omega) (λv hv=>?_) rfl q
  obtain⟨i,t,rfl⟩:=k3 v hv
  exact .now
 have key:∀{st:SortSt}{i:Nat},SBk (tuples' true) (pairsOf its) st->i<(pairsOf its).size->∃t p,t∈T/\(arrOf st)[i]?=some (t.1,p)/\kp (kfP T) (0,0) (arrOf st) i=t.2.2:=fun {st i} B hi=>by
  have hi':i<(arrOf st).size:=by rw[B.size];exact hi
  have hm:(arrOf st)[i]∈(pairsOf its).toList:=(Array.perm_iff_toList_perm.mp B.perm).mem_iff.mp (by simp)
  rw[pairsOf_toList] at hm
  obtain⟨t,ht,e⟩:=hitm _ (mem_zip_self hm).2
  have eg:(arrOf st)[i]?=some (arrOf st)[i]:=getElem?_pos _ i hi'
  refine⟨t,(arrOf st)[i].2,ht,by rw[eg,e],?_⟩
  unfold kp
  rw[eg,Option.map_some,Option.getD_some, ←e]
  exact CA huq ht
 have keys:∀{st:SortSt},SBk (tuples' true) (pairsOf its) st->((arrOf st).toList.map λp=>kfP T p.1).Perm as:=fun {st} B=>by
  have h1:(arrOf st).toList.Perm (its.zip its):=by rw[←pairsOf_toList];exact Array.perm_iff_toList_perm.mp B.perm
  have h2:=h1.map λp=>kfP T p.1
  have h3:(its.zip its).map (λp=>kfP T p.1)=as:=by
   have:(its.zip its).map (λp=>kfP T p.1)=((its.zip its).map Prod.fst).map (kfP T):=by rw[List.map_map];rfl
   rw[this,List.map_fst_zip (Nat.le_refl _), ←e1, ←e3,List.map_map]
   exact List.map_congr_left λt ht=>CA huq ht
  rwa [h3] at h2
 have kat:∀{st:SortSt}{i:Nat} (hi:i<(arrOf st).size),kp (kfP T) (0,0) (arrOf st) i=((arrOf st).toList.map λp=>kfP T p.1)[i]'(by simpa using hi):=fun {st i} hi=>by
  unfold kp
  rw[getElem?_pos (arrOf st) i hi]
  simp
 have OL:=B1
 have LK:∀(A:Around) (Er:Value->Shared->Prop),A.units+1<cLine->AskK X.prog X.w A Er {s with heap:=mid g0 s.heap.objs.size its} ltP (kfP T) (0,0) (pairsOf its) (tuples' true):=λA Er hA=>{
  irr:=OL.irr
  tr:=OL.tr
  ask:=fun {st i j Q} B hi hj qq=>by
   obtain⟨t,p,ht,et,kt⟩:=key B hi
   obtain⟨t',p',ht',et',kt'⟩:=key B hj
   rw[kt,kt'] at qq
   rw[ltAt'_eq]
   refine wpS_bind (wpS_get ?_)
   show wpS _ _ _ _ (elem' (arrOf st) i >>= λx=>elem' (arrOf st) j >>= λy=>lt' x y) Q st
   rw[elem'_eq,elem'_eq,et,et']
   refine wpS_bind (wpS_pure (wpS_bind (wpS_pure ?_)))
   rw[lt'_eq]
   refine wpS_bind (wpS_get ?_)
   rw[B.kind]
   refine wpS_bind (wpS_lift (wpAny_attempt ?_))
   obtain⟨r1,a1,x1,y1,v1,m1,hx1,hy1⟩:=hT t ht
   obtain⟨r2,a2,x2,y2,v2,m2,hx2,hy2⟩:=hT t' ht'
   rw[v1] at r1
   rw[v2] at r2
   have r1':t.1= .ref a1:=r1
   have r2':t'.1= .ref a2:=r2
   obtain⟨is1,rv1,⟨o1,g1,_,n1,d1⟩,_⟩:=I2.tuple (SqT.of m1)
   obtain⟨is2,rv2,⟨o2,g2,_,n2,d2⟩,_⟩:=I2.tuple (SqT.of m2)
   rw[show x1=V.int t.2.2.1 from hx1,show y1=V.int t.2.2.2 from hy1] at rv1
   rw[show x2=V.int t'.2.2.1 from hx2,show y2=V.int t'.2.2.2 from hy2] at rv2
   obtain⟨p1,p2,rfl,q1,q2⟩:=CF rv1
   obtain⟨p3,p4,rfl,q3,q4⟩:=CF rv2
   rw[r1',r2']
   refine PySem.W.kat_lt g1 d1 g2 d2 ?_
   show PySem.W.KatLex _ _ _ true _ _ [(p1,p3),(p2,p4)] 0 _
   refine PySem.W.kat_cons (eq_int.eq (A:=A) I2 q1 q3 rfl rfl (by omega) _ _ _ _ ?_)
   refine PySem.W.kat_go (λz=>PySem.W.kat_yes (PySem.W.kat_cons (eq_int.eq (A:=A) I2 q2 q4 rfl rfl (by omega) _ _ _ _ (PySem.W.kat_go (λy=>PySem.W.kat_yes (PySem.W.kat_nil ?_)) λy=>PySem.W.kat_no (PySem.W.kat_one _ _ ?_))))) λz=>PySem.W.kat_no ?_
   ·have z:=of_decide_eq_true z
    have y:=of_decide_eq_true y
    unfold ltP at qq
    rw[if_pos z,decide_eq_false (by omega)] at qq
    exact⟨rfl,wpS_pure qq⟩
   ·have z:=of_decide_eq_true z
    have y:=of_decide_eq_false y
    unfold ltP at qq
    rw[if_pos z] at qq
    exact lt_int.at' (A:=A) I2 q2 q4 rfl rfl (by omega) _ _ _ _ ⟨rfl,wpS_pure qq⟩
   ·have z:=of_decide_eq_false z
    unfold ltP at qq
    rw[if_neg z] at qq
    obtain⟨tk1,rfl⟩:=q1
    obtain⟨tk3,rfl⟩:=q3
    exact oneLt_int ⟨rfl,wpS_pure qq⟩
  two:=fun {st i j} B hi hj hne=>by
   have hi':i<(arrOf st).size:=by rw[B.size];exact hi
   have hj':j<(arrOf st).size:=by rw[B.size];exact hj
   rw[kat hi',kat hj']
   refine OL.tot λe=>hne ?_
   have hN:=(keys B).nodup_iff.mpr hnd
   have hP:=List.pairwise_iff_getElem.mp hN
   rcases Nat.lt_trichotomy i j with z |z |z
   ·exact absurd e (hP i j (by simpa using hi') (by simpa using hj') z)
   ·exact z
   ·exact absurd e.symm (hP j i (by simpa using hj') (by simpa using hi') z)}
 refine wpAny_bind (wpAny_holding (wpAny_call_entry slot_list_sort ⟨_,hoL,rfl⟩ entry_list_sort (Bp hoL (by omega) (htyp _ _) (LK _ _ (by rw[YH];omega)) λout hp hr=>⟨_,rfl,wpAny_pure ⟨_,rfl,?_⟩⟩) (args_list_sort _)))
 have hpl:out.toList.Perm (its.zip its):=by rw[←pairsOf_toList];exact Array.perm_iff_toList_perm.mp hp
 have hself:∀p∈out.toList,p.1=p.2:=λp hp'=>(mem_zip_self (hpl.mem_iff.mp hp')).1
 have hfst:out.toList.map (·.1)=(out.map (·.2)).toList:=by
  rw[Array.toList_map];exact List.map_congr_left λp hp'=>hself p hp'
 have hperm:((out.map (·.2)).toList).Perm its:=by
  have:=hpl.map Prod.fst
  rw[List.map_fst_zip (Nat.le_refl _)] at this
  rw[←hfst];exact this
 obtain⟨T',hT',eT'⟩:=U7 hperm (l:=T) (f:=(·.1)) e1.symm
 have hk2:T'.map (·.2.2)=out.toList.map λp=>kfP T p.1:=by
  have h1:T'.map (·.2.2)=(T'.map (·.1)).map (kfP T):=by
   rw[List.map_map];exact List.map_congr_left λt ht=>(CA huq (hT'.mem_iff.mp ht)).symm
  rw[h1,eT', ←hfst,List.map_map];rfl
 have hol:out.size=its.length:=by have:=hp.size_eq;rwa [pairsOf_size] at this
 have hsort:T'.map (·.2.2)=Q4 ltP as:=by
  refine Go OL hnd (by rw[←e3];exact hT'.map _) ?_
  rw[hk2,List.pairwise_iff_getElem]
  intro i j hi hj hij
  have hi':i<out.size:=by simpa using hi
  have hj':j<out.size:=by simpa using hj
  have:=hr i j hij (by omega)
  unfold kp at this
  rw[getElem?_pos out i hi',getElem?_pos out j hj'] at this
  simpa using this
 have vv:∀{U:List (Value×V×Int×Int)},(∀t∈U,XW t.2.1 t.1)->XR (U.map (·.2.1)) (U.map (·.1)):=fun {U}=>by
  induction U with
  |nil=>intro _;exact .nil
  |cons t U ih=>intro h;exact .cons (h t List.mem_cons_self) (ih λu hu'=>h u (List.mem_cons_of_mem _ hu'))
 obtain⟨e,he⟩:=sortedHeap_at (out:=out.map (·.2)) hoL
 have hfr:H s.heap.objs.size=none:=I.hok.fresh (Nat.le_refl _)
 have hvv:XR (T'.map (·.2.1)) (out.map (·.2)).toList:=by rw[←eT'];exact vv λt ht=>(hT t (hT'.mem_iff.mp ht)).1
 have hzl:(T'.map (·.2.1)).length=as.length:=by rw[List.length_map,hT'.length_eq, ←e3,List.length_map]
 refine q (T'.map (·.2.1)) _ (I.laid (t':=s.toks) (λb o e=>?_) (Nat.le_refl _) (show Ym X.prog X.w _ _ _ (.lst (T'.map (·.2.1))) from⟨?_,(Array.map (λp:Keyed=>p.2) out).toList,e,hvv,he⟩)) hfr ?_ hzl
 ·exact L2.Vf (hne e) (hold _ _ e)
 ·rw[hzl,sizeLine_eq];omega
 ·rw[←hsort, ←e2]
  have:(T'.map (·.2.1)).zip (T'.map (·.2.2))=T'.map λt=>(t.2.1,t.2.2):=by
   rw[List.zip_map']
  rw[this]
  exact hT'.map _
end
section
variable {prog:Program}{w:World}{A:Around}{E:Value->Shared->Prop}{s:Shared}
end
section
variable {X:Cx}{o:Expr}{lo hi:Option Expr}{pos p2:Pos}{to:TE}{tl th:TO}
end
section
variable {X:Cx}{pins:List (Addr×Obj)}{σ:St}{H G:Hp}{s:Shared}{h':Heap}
noncomputable def G5 (H G:Hp):Hp:=λb=>match G b with
 |some o=>some o
 |none=>H b
theorem UX {b:Addr}{o:HO}(h:G b=some o):G5 H G b=some o:=by unfold G5;rw[h]
theorem Qp {b:Addr}(h:G b=none):G5 H G b=H b:=by unfold G5;rw[h]
theorem Inv.laidG {t':Nat}(I:Inv X pins σ H s)(k:∀b u,s.heap.get? b=some u->h'.get? b=some u)(hp:∀a o,G a=some o->s.heap.objs.size<=a)(new:∀a o,G a=some o->Ym X.prog X.w (G5 H G) h' a o):
  Inv X pins σ (G5 H G) {s with heap:=h',toks:=t'}:=by
 have old:∀b u,H b=some u->G5 H G b=some u:=λb u e=>by
  cases hg:G b with
  |none=>rw[Qp hg];exact e
  |some o=>have:=I.hok.fresh (hp b o hg);rw[this] at e;cases e
 have oldN:∀b,b<s.heap.objs.size->G5 H G b=H b:=λb hb=>by
  cases hg:G b with
  |none=>exact Qp hg
  |some o=>have:=hp b o hg;omega
 refine I.un ⟨λb u q _ _ _=>k b u q,λb u q _ _ _=>⟨u.slots,k b u q⟩,λb u q n _=>by rw[oldN b (Heap.lt_size q)];exact n,λb u q _=>⟨u,k b u q⟩,λb xs q=>old b _ q,λb u xs q=>old b _ q,λb ps q=>⟨#[],by rw[old b _ q];simp⟩⟩ λb u e=>?_
 cases hg:G b with
 |some o=>rw[UX hg] at e;cases e;exact new b _ hg
 |none=>
  rw[Qp hg] at e
  exact(I.hok b u e).stay (λc v _ q=>k c v q) (λc q=>old c _ q) λc xs q=>old c _ q
theorem JP {α β:Type}{R:α->β->Prop}:∀{xs:List α}{ys:List β},xs.length=ys.length->(∀(j:Nat) x y,xs[j]?=some x->ys[j]?=some y->R x y)->Paired R xs ys
 | [],[],_,_=>.nil
 | [],_::_,h,_=>by simp at h
 |_::_,[],h,_=>by simp at h
 |x::xs,y::ys,h,r=>.cons (r 0 x y rfl rfl) (JP (by simpa using h) λj a b ha hb=>r (j+1) a b (by simpa using ha) (by simpa using hb))
theorem G1 {α β:Type}{R:α->β->Prop}{xs:List α}{ys:List β}(h:Paired R xs ys):∀{p:α×β},p∈xs.zip ys->R p.1 p.2:=by
 induction h with
 |nil=>intro p hp;simp at hp
 |cons r _ ih=>
  intro p hp
  rw[List.zip_cons_cons] at hp
  rcases List.mem_cons.mp hp with z |z
  ·rw[z];exact r
  ·exact ih z
theorem Fb {α β:Type}{R:α->β->Prop}{zs ys:List α}{bs as:List β}(hl:zs.length=bs.length)(hm:∀{p:α×β},p∈zs.zip bs↔p∈ys.zip as)(h:Paired R ys as):Paired R zs bs:=JP hl λj x y hx hy=>by
 have:(x,y)∈zs.zip bs:=by
  rw[List.mem_iff_getElem?]
  exact⟨j,by rw[List.getElem?_zip_eq_some];exact⟨hx,hy⟩⟩
 exact G1 h (hm.mp this)
noncomputable def Et (tl:TE)(K:PySem.W.Frag):TE:=λσ H Q=>tl σ H λx H1=>∃ l,∃d:List (Int×Int),x= .ref l/\H1 l=some (.dK (d.map λe=>(Sum.inl e.1,V.int e.2)))/\d.Nodup/\d.length<64/\
 ∀p H2 zs,Xo H1 H2->H1 p=none->H2 p=some (.lst zs)->Paired (rP2 Xb Xb K H2) zs (Q4 ltP d)->Q (.ref p) H2
open Classical in
noncomputable def Cu (as:List Addr)(d:List (Int×Int)):Hp:=λb=>if h:∃j:Nat,as[j]?=some b then(d[Classical.choose h]?).map λe=>HO.tup [.int e.1, .int e.2] else none
theorem Hx {as:List Addr}{d:List (Int×Int)}(hn:as.Nodup){j:Nat}{a:Addr}{e:Int×Int}(ha:as[j]?=some a)(he:d[j]?=some e):Cu as d a=some (.tup [.int e.1, .int e.2]):=by
 have h:∃j:Nat,as[j]?=some a:=⟨j,ha⟩
 unfold Cu
 rw[dif_pos h]
 have hs:=Classical.choose_spec h
 have:Classical.choose h=j:=by
  obtain⟨h1,e1⟩:=List.getElem?_eq_some_iff.mp hs
  obtain⟨h2,e2⟩:=List.getElem?_eq_some_iff.mp ha
  exact(List.getElem_inj hn).mp (e1.trans e2.symm)
 rw[this,he]
 rfl
theorem V6 {as:List Addr}{d:List (Int×Int)}{a:Addr}{o:HO}(h:Cu as d a=some o):∃(j:Nat) (e:Int×Int),as[j]?=some a/\d[j]?=some e/\o= .tup [.int e.1, .int e.2]:=by
 unfold Cu at h
 split at h
 ·rename_i hx
  have hs:=Classical.choose_spec hx
  obtain⟨e,he,rfl⟩:=Option.map_eq_some_iff.mp h
  exact⟨_,e,hs,he,rfl⟩
 ·cases h
theorem KV.dget {d:List (Int×Int)}:∀{vs:List (Key×Value)},KV (d.map λe=>(Sum.inl e.1,V.int e.2)) vs->∀{j:Nat}{k:Key}{x:Value},vs[j]?=some (k,x)->∃e,d[j]?=some e/\k=Sum.inl e.1/\XW (.int e.2) x:=by
 induction d with
 |nil=>intro vs h j k x e;cases h;simp at e
 |cons c d ih=>
  intro vs h j k x e
  cases h with
  |cons r t=>
   cases j with
   |zero=>
    have e:=Option.some.inj e
    subst e
    exact⟨c,rfl,r.1.symm,r.2⟩
   |succ j=>exact ih t (by simpa using e)
end
section
variable {X:Cx}{l:Expr}{tl:TE}{pos npos apos cpos:Pos}
theorem U3 (hc:X.calm=true)(hg:Gl X "sorted")(hm:X.mg "sorted" =none)(hl:PE X l tl)(hu:X.A.units+4<cLine)
  (hbase:attributeBase l "items" X.env (eval l X.env)=eval l X.env:=by rfl)(hline:(apos.endLine==cpos.line)=true:=by rfl)
  (he:starEach [.Call (.Attribute l "items" apos) [] [] cpos] X.env=(false,eval (.Call (.Attribute l "items" apos) [] [] cpos) X.env)::starEach [] X.env:=by rfl)(hpl:(backTo pos (starEach [] X.env)).any (·.1)=false:=by rfl):
  PE X (.Call (.Name "sorted" npos) [.Call (.Attribute l "items" apos) [] [] cpos] [] pos) (Et tl X.K):=by
 intro pins s σ H Q I h
 refine wpAny_Call_Name_kw (Vq I hg hm PyProof.Rows.boot_sorted ?_ (by decide) (by decide))
 refine PyProof.Rows.callWith_builtin1 ?_ he hpl
 rw[he]
 show wpAny _ _ (spliced ((false,eval (.Call (.Attribute l "items" apos) [] [] cpos) X.env)::backTo pos (starEach [] X.env))) _ _ s
 refine Calls.spliced_cons ?_
 refine wpAny_Call_method0_late hbase hline (thn (hl pins s σ H _ I h) λv s1 r9=>?_)
 obtain⟨x,H1,I1,r1,q1⟩:=r9
 obtain⟨a,d,rfl,hd,hnd,h64,q⟩:=q1
 cases r1
 obtain⟨hz,hs,vs,rel,hm⟩:=(show Ym X.prog X.w H1 s1.heap a (.dK (d.map λe=>(Sum.inl e.1,V.int e.2))) from I1.hok a _ hd)
 refine⟨"dict","dict.items",F.plainAttrs_dict,F.slot_dict_items,F.type_dict_items,hm.typeIs,hm.mapOf.noDict,?_⟩
 refine method_meetsIn F.slot_dict_items F.entry_dict_items rfl (PySem.evalArgs_none ⟨rfl,hm.typeIs,F.args_dict_items_1 _,_,meets_dict_items (X1 X.prog X.w) a hs,⟨vs,hm⟩,?_⟩)
 obtain⟨ep,hat⟩:∃ep,s1.heap.DictAt (X1 X.prog X.w) a vs ep:=by
  obtain⟨o,es,ep,g1,g2,g3,g4⟩:=hm
  exact⟨ep,o,es,g1,g2,g3,g4⟩
 have hvw:(s1.heap.push {cls:=.type "dict_items",data:=.fields #[.ref a]}).IsItemsView s1.heap.objs.size a:=⟨_,Heap.get?_push_size _ rfl,rfl,rfl⟩
 refine wpAny_pure ?_
 have hl:=rel.length
 rw[List.length_map] at hl
 refine Calls.call_function_entry kind_sorted plain_sorted entry_sorted (args_sorted1 _) ?_
 unfold Builtin.«sorted»
 refine wpAny_bind (m:=checkCount "sorted" 1 1 _) (wpAny_pure (wpAny_bind (PySem.W.kdx_collect (A:=X.A.in1) (knd:=X1 X.prog X.w) (kvs:=vs) (ep:=ep) (I.ok.hd hc) hvw (hat.push _) (by rw[←hl,sizeLine_eq];omega) λh' tk as hk hla hG=>?_)))
 have hnA:as.Nodup:=hG.rise.imp λh=>Nat.ne_of_lt h
 have hget:∀(j:Nat) (b:Addr),as[j]?=some b->∃e,d[j]?=some e/\Cu as d b=some (.tup [.int e.1, .int e.2])/\∃its:List Value,XR [.int e.1, .int e.2] its/\VN h' b its.toArray:=λj b hb=>by
  obtain⟨key,k,x,e1,e2,e3⟩:=hG.pairs j b hb
  obtain⟨e,he,rfl,rx⟩:=rel.dget e1
  exact⟨e,he,Hx hnA hb he,[key,x], .cons (DH (show Vd (Sum.inl e.1) key=true from e2)) (.cons rx .nil),⟨_,e3,⟨rfl,rfl⟩,_,rfl⟩⟩
 have I2:Inv X pins σ (G5 H1 (Cu as d)) {s1 with heap:=h',toks:=tk}:=I1.laidG (λb u e=>hk b u (Heap.get?_push_of_some _ e)) (λb o e=>by
  obtain⟨j,_,hb,_⟩:=V6 e
  have this:(s1.heap.push {cls:=.type "dict_items",data:=.fields #[.ref a]}).objs.size<b:=hG.above b (List.mem_of_getElem? hb)
  rw[Heap.size_push] at this
  omega) λb o e=>by
   obtain⟨j,e0,hb,he,rfl⟩:=V6 e
   obtain⟨e1,he1,_,its,v1,v2⟩:=hget j b hb
   rw[he] at he1
   cases he1
   exact⟨by show 2<=sizeLine;decide,its,v1,v2⟩
 have hpr:Paired (rP2 Xb Xb X.K (G5 H1 (Cu as d))) (as.map V.ref) d:=JP (by rw[List.length_map,hla, ←hl]) λj y b hy hb=>by
  rw[List.getElem?_map] at hy
  obtain⟨c,hc',rfl⟩:=Option.map_eq_some_iff.mp hy
  obtain⟨e,he,ht,_⟩:=hget j c hc'
  rw[hb] at he
  cases he
  exact⟨c,_,_,rfl,UX ht,rfl,rfl⟩
 have hvv:∀l:List Addr,XR (l.map V.ref) (l.map Value.ref):=λl=>by
  induction l with
  |nil=>exact .nil
  |cons a l ih=>exact .cons rfl ih
 have hsame:Xo H1 (G5 H1 (Cu as d)):=λb o e=>by
  cases hg:Cu as d b with
  |none=>rw[Qp hg];exact e
  |some u=>
   obtain⟨j,_,hb,_⟩:=V6 hg
   have this:(s1.heap.push {cls:=.type "dict_items",data:=.fields #[.ref a]}).objs.size<b:=hG.above b (List.mem_of_getElem? hb)
   rw[Heap.size_push] at this
   have:=I1.hok.fresh (a:=b) (by omega)
   rw[this] at e;cases e
 refine wpAny_mono (DT (A:=X.A.in1) I2 (hvv as) hpr hnd h64 (by rw[YH];omega) (R:=λp s'=>EP X pins σ Q (.ref p) s') λzs s' I' hf hpm hzl=>⟨.ref _,_,I',rfl,?_⟩) (λfin s' ⟨p,e,r⟩=>?_) λ_ _ x=>x
 ·have hs2:Xo (G5 H1 (Cu as d)) (upd (G5 H1 (Cu as d)) h'.objs.size (.lst zs)):=λb o e=>by rw[Xp (Xr e hf)];exact e
  refine q _ _ zs (hsame.trans hs2) ?_ X2 ?_
  ·cases e:H1 h'.objs.size with
   |none=>rfl
   |some o=>have:=hsame _ _ e;rw[hf] at this;cases this
  ·exact Fb (by rw[hzl,(ZX ltP d).length_eq]) (hpm.mem_iff) (Paired.imp2 (λ_ _ z=>MonoE.mono hs2 z) hpr)
 ·subst e
  exact⟨_,rfl,r⟩
end
section
variable {X:Cx}
end
inductive Mx where
 |i (n:Int) |s (x:Str) |b (v:Bool)
 deriving DecidableEq
noncomputable def Mx.v:Mx->V
 | .i n=>.int n
 | .s x=>.str x
 | .b v=>.bl v
section
variable {K:PySem.W.Frag}{Er:Exc->Hp->Prop}{S:SC}{OO OO' OO1 OO2 OO3:List (List Xn)}{σ:St}{α β γ δ ρ:Type}{u:TS}
theorem BL {H:Hp}{kvs:List (Key×V)}{d:List (Int×Int)}(pr:Paired (rDP Xb K H) kvs d):kvs=d.map λe=>(Sum.inl e.1,V.int e.2):=by
 induction pr with
 |nil=>rfl
 |cons r _ ih=>rw[List.map_cons, ←ih];exact congrArg (· ::_) (Prod.ext r.1 r.2)
theorem DF {ta:TE}{ma:Rs (List (Int×Int))}(ha:EvB K Er S OO σ ta (rD Xb) ma):Ev K Er S OO OO σ (Et ta K) (oL (oF (rP2 Xb Xb))) (ma.bind λd=>chk (d.length<64/\d.Nodup) (.ok (Q4 ltP d))):=λH Q w s P=>
 ha.run w s FO.tr P λd x H1 s1 w1 q1 ⟨p,kvs,e,q,pr⟩ P1=>by
  obtain⟨⟨hl,hn⟩,P2⟩:=PZ.chk P1
  have PF:FO K OO OO (oL (oF (rP2 Xb Xb))) Q (Q4 ltP d) H1:=P2
  rw[BL pr] at q
  refine⟨p,d,e,q,hn,hl,λp2 H2 zs hs hp hz hpr=>?_⟩
  have w2:W ([(p2, .lst zs)]::OO) H2:=by
   refine⟨λc hc=>?_,?_,λc hc=>?_⟩
   ·rw[List.flatten_cons,List.mem_append] at hc
    rcases hc with hc |hc
    ·rw[List.mem_singleton] at hc;subst hc;exact hz
    ·exact hs _ _ (w1.tr c hc)
   ·rw[X9]
    exact List.nodup_cons.mpr ⟨w1.fresh hp,w1.nd⟩
   ·rw[List.flatten_cons,List.mem_append] at hc
    rcases hc with hc |hc
    ·rw[List.mem_singleton] at hc;subst hc;rfl
    ·exact w1.mu c hc
  refine PF (.ref p2) [(p2, .lst zs)] H2 hs w2 (λb o q=>?_) ⟨p2,zs,_,rfl,(L2.P3.of (Paired.imp2 (λ_ _ h=>FlatE.flat w2.i h) hpr)).imp λ_ _ _ h=>h,by rw[Yd]⟩
  obtain⟨q1,q2⟩:=X6 q
  refine ZA (hs _ _ q1) ?_
  rw[X9]
  exact λz=>(List.mem_cons.mp z).elim (λz=>Xr q1 hp z) q2
end
section
variable {K:PySem.W.Frag}{Er:Exc->Hp->Prop}{S:SC}{OO OO' OO1 OO2 OO3:List (List Xn)}{σ:St}{α β γ δ ρ ι:Type}{α1 α2 α3 α4 α5:Type}{u:TS}
variable {Fd:Ends->β->Hp->Prop}[fd:FdOk Fd]
theorem EvP.st {t:TO}{m:Rs (Option Int)}(he:EvP Er S OO σ t m){H:Hp}{D:Ends}{Q:Option Int->Hp->Prop}(w:W OO H)(s:S.p (hid H OO)){f:Option Int->Rs β}(P:PZ Er (Fd D) (hid H OO) (m.bind f))
  (hk:∀a H',Xo H H'->W OO H'->S.p (hid H' OO)->PZ Er (Fd D) (hid H' OO) (f a)->Q a H'):t σ H Q:=by
 refine he H Q w s ?_
 cases m with
 |bad=>exact P
 |err x=>exact λH' s'=>P H' (Xu.trans s')
 |ok a=>exact λH' s'=>hk a H' s' (w.keep s') (S.mono _ _ (Xk s') s) (PZ.tr (fd.tr D) (Xk s') P)
theorem BE {ta:TE}{m:Rs (Str×Str)}(ha:EvB K Er S OO σ ta (rP2 Xt Xt) m):EvB K Er S OO σ ta (rPL Xt) (m.bind λp=>.ok [p.1,p.2]):=λH Q w s P=>
 ha.run w s FB.tr P λa x H1 s1 w1 q1 r9 P1=>by obtain⟨p,x1,x2,e,q,h1,h2⟩:=r9;exact P1 _ H1 (Xo.refl _) ⟨p,_,e,q, .cons h1 (.cons h2 .nil)⟩
section
variable {o:OE ρ}{kf:Nat}{Cf:List Xn}{J:Jn γ ι}
end
end
section
variable {K:PySem.W.Frag}{Er:Exc->Hp->Prop}{S:SC}{OO:List (List Xn)}{σ:St}{α β γ ρ ι:Type}{u:TS}{Fd:Ends->β->Hp->Prop}[fd:FdOk Fd]
end
section
variable {K:PySem.W.Frag}{Er:Exc->Hp->Prop}{S:SC}{OO OO':List (List Xn)}{σ:St}{α1 α2 α3 β ρ:Type}{u:TS}
end
noncomputable def TrD (h base:Heap)(e:Addr)(cls:Value)(od:Option Addr)(fl:Value):Prop:=
 ∃oe vs T oT ts,h.get? e=some oe/\(oe.cls=cls/\oe.dict=od)/\oe.data= .fields vs/\vs[1]?=some (.ref T)/\base.get? T=none/\T≠e/\h.get? T=some oT/\oT.data= .fields ts/\ts[3]?=some fl
structure FyD (base:Heap)(l:List Env)(e:Addr)(cls:Value)(od:Option Addr)(fl:Value)(h:Heap):Prop where
 stay:base.StaysIn h
 new:base.get? e=none
 frames:h.FunFrames base l
 tr:TrD h base e cls od fl
section
variable {M:Model}{A:Around}{E:Value->Shared->Prop}{s:Shared}{base:Heap}{env:Env}{outer l:List Env}{L e:Addr}{oe:Obj}{vs:Array Value}{head cls fl:Value}{od:Option Addr}{Q:Unit->Shared->Prop}
end
structure FlD (h0 h:Heap)(H:Hp)(a T:Addr)(cls:Value)(od:Option Addr):Prop where
 na:h0.get? a=none
 nT:h0.get? T=none
 fa:H a=none
 fT:H T=none
 ne:T≠a
 obj:∃oe vs oT ts,h.get? a=some oe/\(oe.cls=cls/\oe.dict=od)/\oe.data= .fields vs/\vs[1]?=some (.ref T)/\h.get? T=some oT/\oT.data= .fields ts/\ts[3]?=some Value.none
section
variable {P:Program}{w:World}{h0 h h' base:Heap}{H:Hp}{a T:Addr}{cls:Value}{od:Option Addr}{l:List Env}
theorem FlD.fly (x:FlD h0 h H a T cls od)(hl:h.FunFrames base l):FyD (CP h (frs l) a T) l a cls od .none h:=by
 obtain⟨oe,vs,oT,ts,ha,hc,hd,h1,hT,hdT,h3⟩:=x.obj
 exact⟨λb o e=>(Ui e).1,Zf (.inr (.inl rfl)),VR hl λb hb=>Zf (.inl hb),oe,vs,T,oT,ts,ha,hc,hd,h1,Zf (.inr (.inr rfl)),x.ne,hT,hdT,h3⟩
theorem FlD.after (x:FlD h0 h H a T cls od)(hl:h.FunFrames base l)(hfn:∀b∈frs l,H b=none)(hok:HOk P w H h)(th:∀b o,h0.get? b=some o->∃o',h.get? b=some o')
  (fy:FyD (CP h (frs l) a T) l a cls od .none h')(up:h.UpToSlots h'):∃T',FlD h0 h' H a T' cls od/\HOk P w H h'/\Un (frs l) [a,T] H H h h':=by
 obtain⟨st,_,_,oe,vs,T',oT,ts,ha,hc,hd,h1,hnT,hne,hT,hdT,h3⟩:=fy
 have key:T'=T∨h.get? T'=none:=by
  cases q:h.get? T' with
  |none=>exact .inr rfl
  |some o=>
   by_cases hf:T'∈frs l
   ·obtain⟨_,o2,ho2,hd2⟩:=hl.mem hf
    obtain⟨sl,e2⟩:=up T' o2 ho2 hd2
    rw[hT] at e2;cases e2
    exact absurd hdT (hd2 ts)
   ·by_cases hz:T'=T
    ·exact .inl hz
    ·rw[Z4 q hf hne hz] at hnT;cases hnT
 have keep:∀b o,b∉frs l->b≠a->b≠T->h.get? b=some o->h'.get? b=some o:=λb o n1 n2 n3 e=>st b o (Z4 e n1 n2 n3)
 refine⟨T',⟨x.na,?_,x.fa,?_,hne,oe,vs,oT,ts,ha,hc,hd,h1,hT,hdT,h3⟩,hok.traced hfn x.fa x.fT keep,Un.traced hl keep up⟩
 ·rcases key with e |e
  ·rw[e];exact x.nT
  ·cases q:h0.get? T' with
   |none=>rfl
   |some o=>obtain⟨o',e'⟩:=th _ _ q;rw[e] at e';cases e'
 ·rcases key with e |e
  ·rw[e];exact x.fT
  ·exact hok.un0 e
end
section
variable {P:Program}{w:World}{K:PySem.W.Frag}{mg:Str->Option Value}{base:Heap}{N:List Str}{qual:Str}{scope:Scope}{f:Addr}{cd:Value}{A:Around}{outer:List Env}{s0:Shared}{H0:Hp}{E:XK}
end
section
variable {X:Cx}{k j:Nat}{x:Str}{ps:List Str}{sp:Sp}{e:Expr}{es:List Expr}{t:TA}{p pos:Pos}{E:XK}
end
end L2
namespace L2
open PySem PySem.Spec PyProof.Rows PySem.W PySem.Builtin PySem.Builtin.ObjectAttr
section
variable {prog:Program}{w:World}{A:Around}{E:Value->Shared->Prop}{K:Frag}{x C P:Addr}{s:Shared}{cd:ClassData}{vs:Array Value}{sl:Array (Option Value)}{name:Str}{v:Value}
theorem getD {expr:Bool}{Q:Value->Shared->Prop}{dx:Addr}{mA:Str->Option Value}(X:K.In s.heap)(hx:s.heap.get? x=some ⟨.ref C,some dx, .fields vs,sl⟩)(hns:s.heap.Ns1 dx mA)(hv:mA name=some v)(hh:handedIn v=true)
  (ga:findIn K (.ref C) "__getattribute__" =some (some (.builtin "BaseException.__getattribute__")))(gh:findIn K (.ref C) "__getattr__" =some none)(mb:mroIn K C (.type "BaseException")=some true)(hd:hasDictIn K C=true)(hn:findIn K (.ref C) name=some none)
  (h:Q v {s with toks:=s.toks+1}):wpAny (model prog w) A (getAttr (.ref x) name expr) Q E s:=by
 obtain⟨hh',g,d,t,os⟩:=s
 obtain⟨oD,es,ep,hoD,hdD,hks,hnd,hfi⟩:=id hns
 have I:InstAt hh' x ⟨.ref C,some dx, .fields vs,sl⟩ C (some oD):=⟨hx,rfl,rfl,hoD⟩
 have hl:lookIn name oD=some (some v):=by
  unfold lookIn
  rw[hdD]
  have q:=hfi name
  rw[hv] at q
  unfold nsFind findBy at q
  rw[←Array.find?_toList] at q
  dsimp only
  cases z:List.find? (λx=>x.key.isStr name) es.toList with
  |none=>rw[z] at q;cases q
  |some en=>rw[z] at q;exact congrArg some q
 have L0:=I.type (M:=model prog w)
 have L1:=looks_findIn (M:=model prog w) X ga
 have L2:=looks_findIn (M:=model prog w) X gh
 have LB:=looks_mroIn (M:=model prog w) X mb
 have LF:=looks_find (M:=model prog w) X I (findObj_own hd hn rfl hl)
 have f3:=PySem.F.attr_ValueError.ga.bind (.ref x)
 have hx2:(Value.builtin "BaseException.__getattribute__" ==Value.builtin "object.__getattribute__")=false:=by decide+kernel
 unfold getAttr getAttrBy
 refine wpAny_bind (wpAny_mkText (wpAny_holding (wpAny_bind (L0.at (wpAny_bind (L1.at ?_))))))
 dsimp only
 rw[hx2,Bool.and_false,if_neg Bool.false_ne_true]
 unfold getAttrByItsOwn hookBefore callGetattribute boundAndCalled
 refine wpAny_bind (L2.at ?_)
 have hx0:(expr&&onTheHeap (Value.builtin "BaseException.__getattribute__"))=false:=by cases expr<;> rfl
 refine wpAny_bind (wpAny_attempt (wpAny_holding ?_))
 rw[hx0,if_neg Bool.false_ne_true,f3]
 refine wpAny_bind (wpAny_pure ?_)
 refine wpAny_call (codeAny_call_builtin PySem.F.attr_ValueError.ga.plain PySem.F.entry_bexc_ga ?_)
 have hk:builtinKind "BaseException.__getattribute__" =some .slot:=by decide+kernel
 have hsplit:splitId "BaseException.__getattribute__" =some ("BaseException","__getattribute__"):=by decide+kernel
 have ha:=PySem.F.args_bexc_ga (.ref x) (Value.str name t)
 simp only[checkBuiltinCall,hk,hsplit]
 unfold isInstance
 refine wpAny_bind (wpAny_bind (L0.at ?_))
 refine LB.at ?_
 rw[if_neg (by decide)]
 have fin:∀s1:Shared,s1=⟨hh',g,d,t+1,os⟩->wpAny (model prog w) A.in1 («object.__getattribute__» {pos:=[Value.ref x]++[Value.str name t]}) (λfin s'=>match fin with | .done (.ret u)=>u=v/\s'=s1 |_=>False) (λ_ _=>False) s1:=by
  intro s1 hs1
  subst hs1
  unfold «object.__getattribute__» bindTo
  repeat (any_goals lk)
  exact⟨rfl,rfl⟩
 unfold argsOk at ha
 have sg2:∀sig,Manifest.signature? "BaseException.__getattribute__" =some sig->Bind.checkArgs "BaseException.__getattribute__" sig {pos:=[Value.ref x,Value.str name t]}=pure ():=λsig e=>by
  rw[e] at ha
  exact ha
 have Y7:∀{P:Unit->Shared->Prop}{E':Value->Shared->Prop}{s1:Shared},P () s1->wpAny (model prog w) A.in1 (match Manifest.signature? "BaseException.__getattribute__" with |some sig=>Bind.checkArgs "BaseException.__getattribute__" sig {pos:=[Value.ref x]++[Value.str name t]} |_=>pure ()) P E' s1:=fun {P E' s1} p=>by
  split
  ·rename_i sig e
   rw[show[Value.ref x]++[Value.str name t]=[Value.ref x,Value.str name t] from rfl,sg2 sig e]
   exact wpAny_pure p
  ·exact wpAny_pure p
 refine Y7 ?_
 refine wpAny_mono (fin _ rfl) (λfi s' z=>?_) λ_ _ z=>z.elim
 rcases fi with(_ |_ |_ |u) |_
 all_goals first |exact z.elim |skip
 obtain⟨rfl,rfl⟩:=z
 show wpAny _ _ (handedOut _) _ _ _
 rw[handedOut_of hh]
 exact wpAny_pure h
end
section
variable {prog:Program}{w:World}{A:Around}{E:Value->Shared->Prop}{h:Heap}{g:Array GenState}{d:Drawn}{t:Nat}{os:OsState}
variable {nm q:Str}{C N:Addr}{bs bm bmB:List Value}{hdct:Bool}{sn:List Str}{sub:List Value}{ab:Bool}{col:Option Bool}{dd:Option Addr}{k0 k1 k2 k3 k5:Option Value}
end
noncomputable def rem (H:Hp)(e:Addr):Hp:=λb=>if b=e then none else H b
section
variable {P:Program}{w:World}{fs ex:List Addr}{H:Hp}{h h':Heap}{a e dx:Addr}{o o1 o2:HO}{φ:Heap->Prop}
theorem Un.put (k:∀b u,h.get? b=some u->h'.get? b=some u)(hn:h.get? a=none)(hH:H a=none):Un fs ex H (upd H a o) h h' where
 keep:=λb o e _ _ _=>k b o e
 slot:=λb o e _ _ _=>⟨o.slots,k b o e⟩
 free:=λb o e n _=>by rw[Xp (λz=>by rw[z,hn] at e;cases e)];exact n
 there:=λb o e _=>⟨o,k b o e⟩
 tups:=λb xs q=>by rw[Xp (Xr q hH)];exact q
 frzs:=λb o xs q=>by rw[Xp (Xr q hH)];exact q
 tbls:=λb ps q=>⟨#[],by rw[Xp (Xr q hH)];simpa using q⟩
theorem HOk.put (x:HOk P w H h)(k:∀b u,h.get? b=some u->h'.get? b=some u)(hn:H a=none)(new:Ym P w (upd H a o) h' a o):HOk P w (upd H a o) h':=λb u e=>by
 by_cases hb:b=a
 ·subst hb;rw[X2] at e;cases e;exact new
 ·rw[Xp hb] at e
  exact(x b u e).stay (λc v _ q=>k c v q) (λc q=>by rw[Xp (Xr q hn)];exact q) λc xs q=>by rw[Xp (Xr q hn)];exact q
theorem Un.store (he:H e=some (.ext φ))(k:∀b u,b≠e->h.get? b=some u->h'.get? b=some u)(heo:∃u,h'.get? e=some u)(hn:h.get? dx=none)(hH:H dx=none):Un fs ex H (upd (upd H dx o1) e o2) h h':=by
 have ne:∀b u,H b=some u->(∀φ,u≠ .ext φ)->b≠e:=λb u q n z=>by rw[z,he] at q;cases q;exact n _ rfl
 have n0:∀b,H b=none->b≠e:=λb q z=>by rw[z,he] at q;cases q
 have two:∀b u,H b=some u->(∀φ,u≠ .ext φ)->upd (upd H dx o1) e o2 b=some u:=λb u q n=>by rw[Xp (ne b u q n),Xp (Xr q hH)];exact q
 exact{
  keep:=λb o e n _ _=>k b o (n0 b n) e
  slot:=λb o e n _ _=>⟨o.slots,k b o (n0 b n) e⟩
  free:=λb o e n _=>by rw[Xp (n0 b n),Xp (λz=>by rw[z,hn] at e;cases e)];exact n
  there:=λb o q _=>by
   by_cases z:b=e
   ·rw[z];exact heo
   ·exact⟨o,k b o z q⟩
  tups:=λb xs q=>two b _ q λ_ z=>nomatch z
  frzs:=λb o xs q=>two b _ q λ_ z=>nomatch z
  tbls:=λb ps q=>⟨#[],by rw[two b _ q λ_ z=>nomatch z];simp⟩}
theorem HOk.store (x:HOk P w H h)(he:H e=some (.ext φ))(k:∀b u,b≠e->h.get? b=some u->h'.get? b=some u)(hH:H dx=none)(n1:Ym P w (upd (upd H dx o1) e o2) h' dx o1)(n2:Ym P w (upd (upd H dx o1) e o2) h' e o2):HOk P w (upd (upd H dx o1) e o2) h':=λb u q=>by
 have ne:∀b u,H b=some u->(∀φ,u≠ .ext φ)->b≠e:=λb u q n z=>by rw[z,he] at q;cases q;exact n _ rfl
 by_cases hb:b=e
 ·subst hb;rw[X2] at q;cases q;exact n2
 ·rw[Xp hb] at q
  by_cases hd:b=dx
  ·subst hd;rw[X2] at q;cases q;exact n1
  ·rw[Xp hd] at q
   refine(x b u q).stay (λc v hc z=>k c v ?_ z) (λc z=>by rw[Xp (ne c _ z λ_ y=>nomatch y),Xp (Xr z hH)];exact z) λc xs z=>by rw[Xp (ne c _ z λ_ y=>nomatch y),Xp (Xr z hH)];exact z
   rcases hc with z |z
   ·rw[z];exact hb
   ·exact ne c _ z λ_ y=>nomatch y
theorem Un.drop (he:H e=some (.ext φ)):Un fs ex H (rem H e) h h:=by
 have two:∀b u,H b=some u->(∀φ,u≠ .ext φ)->rem H e b=some u:=λb u q n=>by
  unfold rem
  rw[if_neg (λz=>by rw[z,he] at q;cases q;exact n _ rfl)];exact q
 exact{
  keep:=λb o e _ _ _=>e
  slot:=λb o e _ _ _=>⟨o.slots,e⟩
  free:=λb o _ n _=>by unfold rem;split<;> first |rfl |exact n
  there:=λb o e _=>⟨o,e⟩
  tups:=λb xs q=>two b _ q λ_ z=>nomatch z
  frzs:=λb o xs q=>two b _ q λ_ z=>nomatch z
  tbls:=λb ps q=>⟨#[],by rw[two b _ q λ_ z=>nomatch z];simp⟩}
theorem HOk.drop (x:HOk P w H h)(he:H e=some (.ext φ)):HOk P w (rem H e) h:=λb u q=>by
 unfold rem at q
 split at q
 ·cases q
 ·have two:∀b u,H b=some u->(∀φ,u≠ .ext φ)->rem H e b=some u:=λb u q n=>by
   unfold rem
   rw[if_neg (λz=>by rw[z,he] at q;cases q;exact n _ rfl)];exact q
  exact(x b u q).stay (λc v _ z=>z) (λc z=>two c _ z λ_ y=>nomatch y) λc xs z=>two c _ z λ_ y=>nomatch y
end
structure ExI (K:Frag)(C P fI:Addr)(f:Str):Prop where
 cls:∃nm q N bs sn sub ab col dd k0 k1 k2 k3 k5,K.lookup C=some (excClassObj nm q C N bs (.ref P::vEr) true sn sub ab col dd k0 k1 k2 k3 k5 "ValueError.__new__")
 par:excIn K P vEr "ValueError.__new__" =true
 sa:findIn K (.ref C) "__setattr__" =some (some (.builtin "object.__setattr__"))
 no:findIn K (.ref C) f=some none
 ini:findIn K (.ref C) "__init__" =some (some (.ref fI))
 fn:isFn K (.ref fI)=true
theorem ExI.cd {K:Frag}{C P fI:Addr}{f:Str}(Y:ExI K C P fI f):∃cd,clsIn K C=some cd/\cd.mro= .ref C:: .ref P::vEr/\cd.hasDict=true:=by
 obtain⟨nm,q,N,bs,sn,sub,ab,col,dd,k0,k1,k2,k3,k5,h⟩:=Y.cls
 unfold clsIn
 rw[h]
 exact⟨_,rfl,rfl,rfl⟩
theorem ExI.tail {K:Frag}{C P fI:Addr}{f:Str}{h:Heap}(Y:ExI K C P fI f)(X:K.In h):OwnTail h vEr (.ref P::vEr):=by
 obtain⟨bm,N,nm,q,bs,hdct,sn,sub,ab,col,dd,k0,k1,k2,k3,k5,mN,hC,hN,hni,T⟩:=Dj X Y.par
 exact .own hC hN hni .base
section
variable {M:Model}{A:Around}{E:Value->Shared->Prop}{env:Env}
variable {nm q:Str}{C N:Addr}{bs bm:List Value}{hdct:Bool}{sn:List Str}{sub:List Value}{ab:Bool}{col:Option Bool}{dd:Option Addr}{k0 k1 k2 k3 k5:Option Value}{newId:String}
end
section
variable {X:Cx}{E:XK}{C P fI:Addr}{f x a b:Str}{e:Expr}{t:TA}{np cpos pos:Pos}{fd:FuncData}{k:Nat}
end
section
variable {X:Cx}{body suite:List Stmt}{b₀:Stmt}{cn n:Str}{Ch:Addr}{i:Nat}{tb:XK->TS}{ts:Addr->Addr->Option Addr->TS}{np hpos pos:Pos}
end
end L2
namespace L2
open PySem PySem.Spec PyProof.Rows PySem.W
section
variable {X:Cx}{pins:List (Addr×Obj)}{σ:St}{H:Hp}{s:Shared}{h':Heap}
end
section
variable {X:Cx}{suite:List Stmt}{b₀:Stmt}{cn n fx:Str}{Ch:Addr}{i k j:Nat}{ts:Addr->Addr->Option Addr->TS}{np hpos pos p cpos epos:Pos}{ps:List Str}{sp:Sp}{e:Expr}{es:List Expr}{t:TA}
end
end L2
namespace L2
open PySem PySem.Spec PyProof.Rows
noncomputable abbrev SI:=Str ⊕ Int
section
variable {K:PySem.W.Frag}{Er:Exc->Hp->Prop}{S:SC}{OO OO' OO2:List (List Xn)}{σ:St}{α β γ ρ ι:Type}{α1 α2 α3:Type}{mg:Str->Option Value}{E:XK}{u:TS}
variable {Fd:Ends->β->Hp->Prop}[fd:FdOk Fd]
theorem VY {te:TE}{o:Enc α}{p:Enc γ}{m:Rs α}(he:EvS K Er S OO σ te o m):EvS K Er S OO σ te (rEi o p) (m.bind λa=>.ok (.inl a)):=λH Q w s P=>by
 refine he H Q w s ?_
 cases m with
 |bad=>exact P
 |err x=>exact P
 |ok a=>exact P
theorem JE {te:TE}{o:Enc α}{p:Enc γ}{m:Rs γ}(he:EvS K Er S OO σ te p m):EvS K Er S OO σ te (rEi o p) (m.bind λa=>.ok (.inr a)):=λH Q w s P=>by
 refine he H Q w s ?_
 cases m with
 |bad=>exact P
 |err x=>exact P
 |ok a=>exact P
end
section
variable {X:Cx}
end
section
variable {K:PySem.W.Frag}{Er:Exc->Hp->Prop}{S:SC}{OO OO':List (List Xn)}{σ:St}{α β:Type}{u:TS}{Fd:Ends->β->Hp->Prop}[fd:FdOk Fd]
end
section
variable {K:PySem.W.Frag}{Er:Exc->Hp->Prop}{S:SC}{OO:List (List Xn)}{σ:St}{α β:Type}{u:TS}{Fd:Ends->β->Hp->Prop}[fd:FdOk Fd]
end
section
variable {K:PySem.W.Frag}{Er:Exc->Hp->Prop}{S:SC}{OO OO':List (List Xn)}{σ:St}{α β γ ρ ι:Type}{α1:Type}{mg:Str->Option Value}{E:XK}{u:TS}
end
section
variable {K:PySem.W.Frag}{Er:Exc->Hp->Prop}{S:SC}{OO:List (List Xn)}{σ:St}
end
section
variable {K:PySem.W.Frag}{Er:Exc->Hp->Prop}{S:SC}{OO OO':List (List Xn)}{σ:St}{α β γ:Type}{u:TS}{Fd:Ends->β->Hp->Prop}[fd:FdOk Fd]
end
section
variable {X:Cx}
noncomputable def Ca:V->List V->Hp->VK->Prop:=λx vs H Q=>∃ a b,x= .str a/\vs=[.str b]/\Q (.bl (Txt.startswith a b)) H
theorem JZ:MtR X "str.startswith" Ca:=by
 intro pins s σ H x vs v us Q I rx rv h
 obtain⟨a,b,rfl,rfl,q⟩:=h
 obtain⟨t,rfl⟩:=rx
 obtain⟨u,rfl,ru⟩:=XR.one rv
 obtain⟨t2,rfl⟩:=ru
 exact PySem.SC.startswith ⟨.bl _,H,I,rfl,q⟩
noncomputable def B3:V->List V->Hp->VK->Prop:=λx vs H Q=>∃ a,x= .str a/\vs=[]/\Q (.bl (Txt.isdigit a)) H
theorem BC:MtR X "str.isdigit" B3:=by
 intro pins s σ H x vs v us Q I rx rv h
 obtain⟨a,rfl,rfl,q⟩:=h
 obtain⟨t,rfl⟩:=rx
 cases rv
 exact PySem.SC.isdigit ⟨.bl _,H,I,rfl,q⟩
theorem Gd:∀{ys:List Str}{its:List Value},XR (ys.map V.str) its->StrsAre its ys
 | [],_,h=>by cases h;exact .nil
 |y::ys,_,h=>by
  cases h with
  |cons r t=>
   obtain⟨u,rfl⟩:=r
   exact .cons _ _ (Gd t)
noncomputable def IX (K:PySem.W.Frag):V->List V->Hp->VK->Prop:=λx vs H Q=>∃ a p ys,x= .str a/\vs=[.ref p]/\SqL K H p (ys.map V.str)/\(ys.map (·.length)).sum+ys.length*a.length<=16777216/\Q (.str (Txt.join a ys)) H
theorem CG (K:PySem.W.Frag)(hK:X.K=K):MtR X "str.join" (IX K):=by
 subst hK
 intro pins s σ H x vs v us Q I rx rv h
 obtain⟨a,p,ys,rfl,rfl,hq,hb,q⟩:=h
 obtain⟨t,rfl⟩:=rx
 obtain⟨u,rfl,ru⟩:=XR.one rv
 cases ru
 obtain⟨its,rr,pl,hz⟩:=I.list hq
 exact PyProof.Rows.join_list pl.isList (by simpa using Gd rr) hb λt' k=>⟨.str _,H,I.tok _,⟨_,rfl⟩,q⟩
noncomputable def En:V->List V->Hp->VK->Prop:=λx vs H Q=>∃ a b,x= .str a/\vs=[.str b]/\(b.length==0)=false/\a.length<=sizeLine/\(Txt.split a b).length<=sizeLine/\∀l,H l=none->Q (.ref l) (upd H l (.lst ((Txt.split a b).map V.str)))
theorem U1:∀(l:List (Str×Tok)),XR ((l.map (·.1)).map V.str) (strValues l)
 | []=>.nil
 | (x,t)::l=>.cons ⟨t,rfl⟩ (U1 l)
theorem BF:MtR X "str.split" En:=by
 intro pins s σ H x vs v us Q I rx rv h
 obtain⟨a,b,rfl,rfl,hb,ha,hz,q⟩:=h
 obtain⟨t,rfl⟩:=rx
 obtain⟨u,rfl,ru⟩:=XR.one rv
 obtain⟨t2,rfl⟩:=ru
 have fin:∀(l:List (Str×Tok)) (k:Nat),l.map (·.1)=Txt.split a b->EP X pins σ Q (.ref s.heap.objs.size) {s with heap:=s.heap.push {cls:=.type "list",data:=.seq (strValues l).toArray},toks:=k}:=λl k hl=>
  ⟨.ref s.heap.objs.size,_,I.laid (t':=k) (o:=.lst ((Txt.split a b).map V.str)) (λb ob q=>Heap.get?_push_of_some _ q) (Nat.le_refl _) ⟨by rw[List.length_map];exact hz,_,0,by rw[←hl];exact U1 l,Heap.get?_push_size _ rfl⟩,rfl,q _ (I.hok.fresh (Nat.le_refl _))⟩
 cases h1:(decide (a.length<b.length) || decide (Builtin.Str.strKind a<Builtin.Str.strKind b))
 ·cases hf:(Builtin.Str.occurrences a b 0 a.length (a.length+1)).isEmpty
  ·have e:Txt.split a b=Builtin.Str.partsBetween a (Builtin.Str.occurrences a b 0 a.length (a.length+1)) b.length:=(if_neg (ne_true_of_eq_false h1)).trans (if_neg (ne_true_of_eq_false hf))
   rw[e] at hz
   refine call_meets F.slot_str_split (typeIs_str _ _ _) F.entry_str_split (F.args_str_split_2 _ _) (meets_str_split_sep a b t t2 h1 hb hf ha hz) ?_
   show EP X pins σ Q _ {s with toks:=_,heap:=s.heap.push {cls:=.type "list",data:=.seq (strsFrom s.toks (Builtin.Str.partsBetween a (Builtin.Str.occurrences a b 0 a.length (a.length+1)) b.length)).toArray}}
   rw[strsFrom_eq]
   exact fin (numbered s.toks _) _ ((numbered_texts _ _).trans e.symm)
  ·exact call_meets F.slot_str_split (typeIs_str _ _ _) F.entry_str_split (F.args_str_split_2 _ _) (meets_str_split_not_found a b t t2 h1 hb hf) (fin [(a,t)] s.toks ((if_neg (ne_true_of_eq_false h1)).trans (if_pos hf)).symm)
 ·exact call_meets F.slot_str_split (typeIs_str _ _ _) F.entry_str_split (F.args_str_split_2 _ _) (meets_str_split_cannot_occur a b t t2 h1) (fin [(a,t)] s.toks (if_pos h1).symm)
noncomputable def MR:V->Option Int->Option Int->Hp->VK->Prop:=λx lo hi H Q=>∃ a,x= .str a/\a.length<=sizeLine/\Q (.str (Txt.slice a lo hi)) H
theorem GM:SlR X MR:=by
 intro pins s σ H x v vl vu lo hi sl Q I rx hs pl pu h
 obtain⟨a,rfl,hz,q⟩:=h
 obtain⟨t,rfl⟩:=rx
 obtain⟨o,ho,hc,hd⟩:=hs
 refine⟨"str",_,F.slot_str_getitem.lookup,typeIs_str _ _ _,?_⟩
 have fin:∀(t':Tok) (k:Nat),EP X pins σ Q (.str (Txt.slice a lo hi) t') {s with toks:=k}:=λt' k=>⟨.str _,H,I.tok _,⟨_,rfl⟩,q⟩
 cases pl with
 |none=>
  cases pu with
  |none=>exact wpAny_getItem_str_slice (l:=none) (u:=none) (st:=none) ⟨o,ho,hc,hd⟩ rfl (post_val_or_str ⟨Nat.le_trans (Txt.slice_le a _ _) hz,λt' k=>fin t' k⟩)
  |int j tj=>exact wpAny_getItem_str_slice (l:=none) (u:=some (j,tj)) (st:=none) ⟨o,ho,hc,hd⟩ rfl (post_val_or_str ⟨Nat.le_trans (Txt.slice_le a _ _) hz,λt' k=>fin t' k⟩)
 |int i ti=>
  cases pu with
  |none=>exact wpAny_getItem_str_slice (l:=some (i,ti)) (u:=none) (st:=none) ⟨o,ho,hc,hd⟩ rfl (post_val_or_str ⟨Nat.le_trans (Txt.slice_le a _ _) hz,λt' k=>fin t' k⟩)
  |int j tj=>exact wpAny_getItem_str_slice (l:=some (i,ti)) (u:=some (j,tj)) (st:=none) ⟨o,ho,hc,hd⟩ rfl (post_val_or_str ⟨Nat.le_trans (Txt.slice_le a _ _) hz,λt' k=>fin t' k⟩)
noncomputable def Iw:List V->Hp->VK->Prop:=λxs H Q=>∃ z n,xs=[.str z]/\PySem.intText? z=some n/\z.length<=640/\Q (.int n) H
theorem DW:ZJ X (.type "int") Iw:=by
 intro pins s σ H xs us Q I r h
 obtain⟨z,n,rfl,hn,hl,q⟩:=h
 obtain⟨u,rfl,ru⟩:=Ky r
 obtain⟨t,rfl⟩:=ru
 exact W.KIN.call_text hn hl ⟨.int n,H,I.tok _,⟨_,rfl⟩,q⟩
end
section
variable {X:Cx}{e:Expr}{es:List Expr}{te:TE}{t:TJ}{n:Nat}{pos p:Pos}
noncomputable def tJr (te:TE)(t:TJ):TJ:=λσ H Q=>te σ H λv H1=>∃ x:Str,v= .str x/\(reprText x).length<=2000/\t σ H1 Q
theorem V8 (he:PE X e te)(hr:PJ X es (n+2000) t)(hz:n+2000<=sizeLine:=by exact Nat.le_of_ble_eq_true rfl):PJ X (.FormattedValue e 114 none p::es) n (tJr te t):=λpins s σ H Q out I hl q=>by
 refine joinParts_cons (wpAny_FormattedValue_repr (wpAny_mono (he pins s σ H _ I q) (λu s1 r9=>?_) λ_ _ z=>z))
 obtain⟨v,H1,I1,r,x,hv,hx,q1⟩:=r9
 subst hv
 obtain⟨tk,hu⟩:∃tk,u=Value.str x tk:=r
 subst hu
 have h2:(reprText x).length<=sizeLine:=Nat.le_trans hx (by decide)
 refine wpAny_pyReprObj_str ?_ h2
 have hle:(out++reprText x).length<=n+2000:=by rw[strLen_append];omega
 exact formatField_str (λt' tk=>⟨Nat.le_trans hle hz,hr pins _ σ H1 Q _ ((I1.tok _).tok _) hle q1⟩) h2
end
section
variable {α β:Type}{K:PySem.W.Frag}{Er:Exc->Hp->Prop}{S:SC}{OO:List (List Xn)}{σ:St}
noncomputable def sI (i:Int):Str:=toString i
theorem QD {ta tb:TE}{ma mb:Rs Str}(ha:EvB K Er S OO σ ta Xt ma)(hb:EvB K Er S OO σ tb Xt mb):EvB K Er S OO σ (tBM K "str" Ca ta (XT tb ZO)) Xl (ma.bind λa=>mb.bind λb=>.ok (Txt.startswith a b)):=λH Q w s P=>
 ha.run w s FB.tr P λa x H1 s1 w1 q1 e P1=>⟨by rw[show x= .str a from e];exact rfl,hb.run w1 q1 FB.tr P1 λb v H2 s2 w2 q2 r2 P2=>⟨a,b,e,by rw[show v= .str b from r2],P2 _ H2 (Xo.refl _) rfl⟩⟩
theorem Df {ta:TE}{ma:Rs Str}(ha:EvB K Er S OO σ ta Xt ma):EvB K Er S OO σ (MO K "str" B3 ta) Xl (ma.bind λa=>.ok (Txt.isdigit a)):=λH Q w s P=>
 ha.run w s FB.tr P λa x H1 s1 w1 q1 e P1=>⟨by rw[show x= .str a from e];exact rfl,a,e,rfl,P1 _ H1 (Xo.refl _) rfl⟩
theorem FX {H:Hp}:∀{xs:List V}{as:List Str},Paired (Xt K H) xs as->xs=as.map V.str
 |_,_, .nil=>rfl
 |_,_, .cons r t=>by rw[FX t,show _=V.str _ from r];rfl
theorem Co {H:Hp}:∀(as:List Str),Paired (Xt K H) (as.map V.str) as
 | []=>.nil
 |a::as=>.cons rfl (Co as)
theorem Gv {ta tb:TE}{ma:Rs Str}{mb:Rs (List Str)}(ha:EvB K Er S OO σ ta Xt ma)(hb:EvB K Er S OO σ tb (rV Xt) mb):EvB K Er S OO σ (tBM K "str" (IX K) ta (XT tb ZO)) Xt (ma.bind λa=>mb.bind λys=>chk ((ys.map (·.length)).sum+ys.length*a.length<=16777216) (.ok (Txt.join a ys))):=λH Q w s P=>
 ha.run w s FB.tr P λa x H1 s1 w1 q1 e P1=>⟨by rw[show x= .str a from e];exact rfl,hb.run w1 q1 FB.tr P1 λys v H2 s2 w2 q2 ⟨p,xs,ev,hq,pr⟩ P2=>by
  obtain⟨hn,P3⟩:=PZ.chk P2
  exact⟨a,p,ys,e,by rw[ev],SqL.of (by rw[hq,FX pr]),hn,P3 _ H2 (Xo.refl _) rfl⟩⟩
theorem Bd {ta tb:TE}{ma mb:Rs Str}(ha:EvB K Er S OO σ ta Xt ma)(hb:EvB K Er S OO σ tb Xt mb):Ev K Er S OO OO σ (tBM K "str" En ta (XT tb ZO)) (oL (oF Xt)) (ma.bind λa=>mb.bind λb=>chk ((b.length==0)=false/\a.length<=sizeLine/\(Txt.split a b).length<=sizeLine) (.ok (Txt.split a b))):=λH Q w s P=>
 ha.run w s FO.tr P λa x H1 s1 w1 q1 e P1=>⟨by rw[show x= .str a from e];exact rfl,hb.run w1 q1 FO.tr P1 λb v H2 s2 w2 q2 r2 P2=>by
  obtain⟨⟨h0,h1,h3⟩,P3⟩:=PZ.chk P2
  exact⟨a,b,e,by rw[show v= .str b from r2],h0,h1,h3,Ig w2 (Co _) P3⟩⟩
theorem Z0 {te:TE}{tl th:TO}{m:Rs Str}{ml mh:Rs (Option Int)}(he:EvB K Er S OO σ te Xt m)(hl:EvP Er S OO σ tl ml)(hh:EvP Er S OO σ th mh):
  EvB K Er S OO σ (tSl MR te tl th) Xt (m.bind λa=>ml.bind λlo=>mh.bind λhi=>chk (a.length<=sizeLine) (.ok (Txt.slice a lo hi))):=λH Q w s P=>
 he.run w s FB.tr P λa x H1 s1 w1 q1 e P1=>hl.run w1 q1 FB.tr P1 λlo H2 s2 w2 q2 P2=>hh.run w2 q2 FB.tr P2 λhi H3 s3 w3 q3 P3'=>by
  obtain⟨hn,P4⟩:=PZ.chk P3'
  exact⟨a,e,hn,P4 _ H3 (Xo.refl _) rfl⟩
noncomputable def BY (a:Str):Rs Int:=match PySem.intText? a with
 |some n=>chk (a.length<=640) (.ok n)
 |none=>.bad
theorem E5 {a:Str}{x:Exc}:BY a≠ .err x:=by unfold BY;split;exact Z7;exact λz=>nomatch z
theorem Hi {a:Str}{n:Int}(h:BY a= .ok n):PySem.intText? a=some n/\a.length<=640:=by
 unfold BY at h;split at h
 ·obtain⟨h1,h2⟩:=Zj h;cases h2;exact⟨by assumption,h1⟩
 ·cases h
theorem CT {ta:TE}{ma:Rs Str}(ha:EvB K Er S OO σ ta Xt ma):EvB K Er S OO σ (tCB Iw (XT ta ZO)) Xb (ma.bind BY):=λH Q w s P=>
 ha.run w s FB.tr P λa x H1 s1 w1 q1 e P1=>by
  obtain⟨c,hc,P3⟩:=P1.okOf λx=>E5
  obtain⟨h1,h2⟩:=Hi hc
  exact⟨a,c,by rw[show x= .str a from e],h1,h2,P3 _ H1 (Xo.refl _) rfl⟩
theorem QA {ta:TE}{ma:Rs Int}(ha:EvB K Er S OO σ ta Xb ma):EvB K Er S OO σ (tCB (λxs H Q=>∃ i:Int,xs=[.int i]/\i.natAbs.log2<1920/\Q (.str (toString i)) H) (XT ta ZO)) Xt (ma.bind λi=>chk (i.natAbs.log2<1920) (.ok (sI i))):=λH Q w s P=>
 ha.run w s FB.tr P λi x H1 s1 w1 q1 e P1=>by
  obtain⟨hn,P3⟩:=PZ.chk P1
  exact⟨i,by rw[show x= .int i from e],hn,P3 _ H1 (Xo.refl _) rfl⟩
theorem BU {ta:TE}{ma:Rs Str}(ha:EvB K Er S OO σ ta Xt ma):EvB K Er S OO σ (tCB (λxs H Q=>∃ z:Str,xs=[.str z]/\z.length<=sizeLine/\Q (.int z.length) H) (XT ta ZO)) Xb (ma.bind λa=>chk (a.length<=sizeLine) (.ok (a.length:Int))):=λH Q w s P=>
 ha.run w s FB.tr P λa x H1 s1 w1 q1 e P1=>by
  obtain⟨hn,P3⟩:=PZ.chk P1
  exact⟨a,by rw[show x= .str a from e],hn,P3 _ H1 (Xo.refl _) rfl⟩
theorem ZW {ta tb:TE}{ma mb:Rs Str}(ha:EvB K Er S OO σ ta Xt ma)(hb:EvB K Er S OO σ tb Xt mb):EvB K Er S OO σ (tOp (λx y H Q=>∃ i j:Str,x= .str i/\y= .str j/\i.length+j.length<=sizeLine/\Q (.str (i++j)) H) ta tb) Xt (ma.bind λa=>mb.bind λb=>chk (a.length+b.length<=sizeLine) (.ok (a++b))):=λH Q w s P=>
 ha.run w s FB.tr P λa x H1 s1 w1 q1 e P1=>hb.run w1 q1 FB.tr P1 λb y H2 s2 w2 q2 e2 P2=>by
  obtain⟨hn,P3⟩:=PZ.chk P2
  exact⟨a,b,e,e2,hn,P3 _ H2 (Xo.refl _) rfl⟩
theorem Jj {te:TE}{t:TJ}{ma:Rs Str}{m:Rs Unit}(ha:EvB K Er S OO σ te Xt ma)(h:EvJ Er S OO σ t m):EvJ Er S OO σ (tJr te t) (ma.bind λa=>chk ((reprText a).length<=2000) m):=λH Q w s P=>
 ha.run w s FJ.tr P λa v H1 s1 w1 q1 e P1=>by
  obtain⟨hn,P3⟩:=PZ.chk P1
  exact⟨a,e,hn,h H1 Q w1 q1 P3⟩
theorem C8 {o:OE α}{r:Enc α}[z:FrzC o r]{te:TE}{v:V}{a:α}{C:List Xn}(k:Nat)(ht:∀(H:Hp) (Q:VK),W OO H->S.p (hid H OO)->Q v H->te σ H Q)(hk:OO[k]?=some C)(h:∀x,S.p x->o K x v a C):EvB K Er S OO σ te r (.ok a):=λH Q w s P=>
 ht H Q w s (P v H (Xo.refl _) (z.frz (h _ s) Xu λc hc=>w.tr c (List.mem_flatten.mpr ⟨C,List.mem_of_getElem? hk,hc⟩)))
noncomputable def EL {γ ε:Type}:(α×γ) ⊕ (α×ε)->α
 | .inl a=>a.1
 | .inr b=>b.1
theorem EH {γ ε:Type}{ta:TE}{r:Enc α}{r1:Enc γ}{q1:Enc ε}{m:Rs ((α×γ) ⊕ (α×ε))}(ha:EvB K Er S OO σ ta (rEi (rP2 r r1) (rP2 r q1)) m):EvB K Er S OO σ (tOp (CN K) ta (tC (.int 0))) r (m.bind λp=>.ok (EL p)):=λH Q w s P=>
 ha.run w s FB.tr P λa x H1 s1 w1 q1 h P1=>by
  cases a with
  |inl a=>
   obtain⟨p,x,y,e,q,h1,h2⟩:=h
   exact⟨p,_,0,x,e,rfl,SqT.of q,rfl,P1 _ H1 (Xo.refl _) h1⟩
  |inr a=>
   obtain⟨p,x,y,e,q,h1,h2⟩:=h
   exact⟨p,_,0,x,e,rfl,SqT.of q,rfl,P1 _ H1 (Xo.refl _) h1⟩
theorem F3 {te:TE}{v y:V}(ht:∀(H:Hp) (Q:VK),W OO H->S.p (hid H OO)->Q v H->te σ H Q)(h:∀x,S.p x->Ma K x v y):∀(H:Hp) (Q:VK),W OO H->S.p (hid H OO)->Q y H->(tOp (CN K) te (tC (.int 0))) σ H Q:=λH Q w s q=>ht H _ w s (by
 obtain⟨a,x,e,hx⟩:=h _ s
 exact⟨a,_,0,y,e,rfl,SqT.of (Xu _ _ hx),rfl,q⟩)
theorem ED {te:TE}{v y:V}(ht:∀(H:Hp) (Q:VK),W OO H->S.p (hid H OO)->Q v H->te σ H Q)(h:∀x,S.p x->Im K x v y):∀(H:Hp) (Q:VK),W OO H->S.p (hid H OO)->Q y H->(tOp (CN K) te (tC (.int 1))) σ H Q:=λH Q w s q=>ht H _ w s (by
 obtain⟨a,x,e,hx⟩:=h _ s
 exact⟨a,_,1,y,e,rfl,SqT.of (Xu _ _ hx),rfl,q⟩)
section
variable {ρ:Type}{mg:Str->Option Value}{u:TS}{te:XK->TE}{m:Rs α}{mc:Rs Bool}{c:XK->TT}{t2:XK->TS}{ts:Addr->Addr->TS}{N i:Nat}{Ch:Addr}{o:OE ρ}{g:Exc->Rs ρ}{ns:List Str}{d:Str}{OO':List (List Xn)}
end
section
variable {u:TS}{Fd:Ends->β->Hp->Prop}[fd:FdOk Fd]
end
end
noncomputable def Bb (h:Heap)(T:Addr):Heap:=h.update T (Obj.mapFields (·.setIfInBounds 3 Value.none))
structure FlA (h0 h:Heap)(H:Hp)(a T:Addr)(cls fl:Value):Prop where
 na:h0.get? a=none
 nT:h0.get? T=none
 fa:H a=none
 fT:H T=none
 ne:T≠a
 obj:∃oe vs oT ts a0,h.get? a=some oe/\oe.cls=cls/\vs[0]?=some a0/\oe.data= .fields vs/\vs[1]?=some (.ref T)/\h.get? T=some oT/\oT.data= .fields ts/\ts[3]?=some fl
section
variable {h0 h:Heap}{H:Hp}{a T:Addr}{cls fl:Value}
theorem VH (b:Addr)(hb:b≠T):(Bb h T).get? b=h.get? b:=Heap.get?_update_other _ _ (Ne.symm hb)
theorem FlA.calm (x:FlA h0 h H a T cls fl):Fl h0 (Bb h T) H a T cls:=by
 obtain⟨oe,vs,oT,ts,a0,ha,hc,h0',hd,h1,hT,hdT,h3⟩:=x.obj
 have hsz:3<ts.size:=(Array.getElem?_eq_some_iff.mp h3).1
 exact⟨x.na,x.nT,x.fa,x.fT,x.ne,oe,vs,_,_,a0,(VH a (Ne.symm x.ne)).trans ha,hc,h0',hd,h1,Heap.get?_update_self _ hT (Obj.isFreed_of_fields (Obj.data_mapFields hdT _)),Obj.data_mapFields hdT _,by simp[hsz]⟩
theorem Ha {oT:Obj}{ts:Array Value}(hT:h.get? T=some oT)(hdT:oT.data= .fields ts):h.UpToSlots (Bb h T):=λb o e hn=>⟨o.slots,(VH b λz=>by
 rw[z,hT] at e;cases e;exact hn _ hdT).trans e⟩
theorem FlA.up (x:FlA h0 h H a T cls fl):h.UpToSlots (Bb h T):=by
 obtain⟨_,_,_,_,_,_,_,_,_,_,hT,hdT,_⟩:=x.obj
 exact Ha hT hdT
end
section
variable {P:Program}{w:World}{K:PySem.W.Frag}{mg:Str->Option Value}{base:Heap}{N:List Str}{qual:Str}{scope:Scope}{f:Addr}{cd:Value}{A:Around}{outer:List Env}{s0:Shared}{H0:Hp}{E:XK}
end
theorem Un.but {fs ch:List Addr}{H:Hp}{h h':Heap}(k:∀b,b∉ch->h'.get? b=h.get? b):Un fs ch H H h h' where
 keep:=λb o e _ _ hx=>(k b hx).trans e
 slot:=λb o e _ _ hx=>⟨o.slots,(k b hx).trans e⟩
 free:=λ_ _ _ n _=>n
 there:=λb o e hx=>⟨o,(k b hx).trans e⟩
 tups:=λ_ _ q=>q
 frzs:=λ_ _ _ q=>q
 tbls:=λ_ ps q=>⟨#[],by simpa using q⟩
section
variable {X:Cx}{pins:List (Addr×Obj)}{σ:St}{H:Hp}{s:Shared}{N:List Str}{scope:Scope}{cl:List (Str×Addr)}{C:Addr}{fp:List Addr}{Q:Value->Shared->Prop}{acc:Value}{E:XK}
end
section
variable {X:Cx}{elt tg iter:Expr}{ifs:List Expr}{scope:Scope}{pos:Pos}{wi:TI}{g:TG}{tt:TT}{te:TE}{E':XK}
end
end L2
set_option synthInstance.maxSize 2000
set_option synthInstance.maxHeartbeats 400000
namespace My
open PySem L2
noncomputable abbrev XL:List Str:=["PlaitError","NotADrawing","NoFit","NoLine"]
noncomputable def Ys (a_0:(List (List Int))):Rs (List (Int×Bool)):=(Rs.bind (Rs.ok []) λa1=>(Rs.bind (Rs.ok a_0) λx25=>(Rs.bind (forN x25 (a1) (λg6 a8=>(Rs.bind (Rs.ok a8) λx22=>(Rs.bind (forN x22 (g6) (λg12 a14=>(Rs.bind (Rs.ok true) λx16=>(Rs.bind (Rs.ok a14) λx17=>(chk (g12.length<sizeLine) ((λa18=>(Rs.ok (a18))) (Zg g12 x17 x16))))))) λg20=>(Rs.ok (g20)))))) λg23=>(Rs.ok g23))))
noncomputable def YA (a_0:(List (List Int)))(a_1:(List (Int×Int)))(a_2:(List (Int×Bool))):Rs (Option (List (Str ⊕ Int))):=(Rs.bind (Rs.bind (Rs.bind (Rs.ok a_1) λx7=>(GL x7 (λa5=>(Rs.bind (Rs.bind (Rs.ok a5) λx8=>(Rs.ok x8.1)) λx9=>(Rs.bind (Rs.ok true) λx10=>(Rs.ok (x9,x10))))))) λx3=>(Rs.ok (J9 [] x3))) λa1=>(Rs.bind (Rs.ok []) λa11=>(Rs.bind (Rs.bind (Rs.ok a_0) λx14=>(Rs.ok (Vh x14))) λx64=>(Rs.bind (forC x64 (a11) (λg17 a19=>(Rs.bind (Rs.bind (Rs.ok a19.2) λx21=>(Rs.ok (Vh x21))) λx61=>(Rs.bind (forC x61 (g17) (λg24 a26=>(Rs.bind (orR (Rs.bind (Rs.ok a26.2) λx30=>(Rs.bind (Rs.ok g24) λx31=>(Rs.ok (XS x31 x30).isSome))) (Rs.bind (Rs.bind (Rs.ok a26.2) λx32=>(Rs.ok (-x32))) λx33=>(Rs.bind (Rs.ok a_2) λx34=>(Rs.ok (!(XS x34 x33).isSome))))) λa28=>(Rs.bind (orR (Rs.bind (Rs.ok a26.2) λx35=>(Rs.bind (Rs.ok (0:Int)) λx36=>(Rs.ok (decide (x35=x36))))) (orR (Rs.ok a28) (Rs.bind (Rs.bind (Rs.ok a26.2) λx37=>(Rs.ok (x37.natAbs:Int))) λx38=>(Rs.bind (Rs.ok a1) λx39=>(Rs.ok (!(XS x39 x38).isSome)))))) λx40=>(if x40=true then(Rs.bind (Rs.bind (Rs.bind ((Rs.bind (Rs.bind (Rs.ok ("walk":Str)) λx47=>(Rs.ok (Sum.inl x47))) λx48=>(Rs.bind (Rs.bind (Rs.bind (Rs.ok a19.1) λx44=>(Rs.ok (Sum.inr x44))) λx45=>(Rs.bind (Rs.bind (Rs.bind (Rs.ok a26.1) λx41=>(Rs.ok (Sum.inr x41))) λx42=>(Rs.bind (Rs.ok []) λx43=>(Rs.ok (x42::x43)))) λx46=>(Rs.ok (x45::x46)))) λx49=>(Rs.ok (x48::x49)))):Rs (List (Str ⊕ Int))) λx50=>(chk (x50.length<=sizeLine) (Rs.ok x50))) λx51=>(Rs.ok (some x51))) λx57=>(Rs.ok (Ctl.ret x57))) else(Rs.bind (Rs.ok true) λx52=>(Rs.bind (Rs.ok a26.2) λx53=>(chk (g24.length<sizeLine) ((λa54=>(Rs.bind (Rs.ok (a54)) λx56=>(Rs.ok (Ctl.nx x56)))) (Zg g24 x53 x52)))))))))) (Q0 λg58=>(Rs.bind (Rs.ok (g58)) λx60=>(Rs.ok (Ctl.nx x60)))))))) (Vb λg62=>(Rs.ok none))))))
noncomputable def YB (a_0:(List (Int×Int)))(a_1:(List (Int×Bool))):Rs (Option (List (Str ⊕ Int))):=(Rs.bind (Rs.ok (0:Int)) λa1=>(Rs.bind (Rs.bind (Rs.ok a_0) λx3=>(Rs.ok (Vh x3))) λx39=>(Rs.bind (forC x39 (a1) (λg6 a8=>(Rs.bind (orR (Rs.bind (Rs.bind (Rs.ok a8.2) λx10=>(Rs.ok x10.1)) λx11=>(Rs.bind (Rs.ok g6) λx12=>(Rs.ok (decide (x11<=x12))))) (orR (Rs.bind (Rs.bind (Rs.ok a8.2) λx13=>(Rs.ok x13.2)) λx17=>(Rs.bind (Rs.bind (Rs.bind (Rs.ok (1:Int)) λx15=>(Rs.bind (Rs.bind (Rs.ok (1:Int)) λx14=>(Rs.ok (-x14))) λx16=>(Rs.ok (x15,x16)))) λx19=>(Rs.ok [x19.1,x19.2])) λx18=>(Rs.ok (!(decide (x17∈x18)))))) (Rs.bind (Rs.bind (Rs.ok a8.2) λx20=>(Rs.ok x20.1)) λx21=>(Rs.bind (Rs.ok a_1) λx22=>(Rs.ok (!(XS x22 x21).isSome)))))) λx23=>(if x23=true then(Rs.bind (Rs.bind (Rs.bind ((Rs.bind (Rs.bind (Rs.ok ("sign":Str)) λx27=>(Rs.ok (Sum.inl x27))) λx28=>(Rs.bind (Rs.bind (Rs.bind (Rs.ok a8.1) λx24=>(Rs.ok (Sum.inr x24))) λx25=>(Rs.bind (Rs.ok []) λx26=>(Rs.ok (x25::x26)))) λx29=>(Rs.ok (x28::x29)))):Rs (List (Str ⊕ Int))) λx30=>(chk (x30.length<=sizeLine) (Rs.ok x30))) λx31=>(Rs.ok (some x31))) λx36=>(Rs.ok (Ctl.ret x36))) else(Rs.bind (Rs.bind (Rs.ok a8.2) λx34=>(Rs.ok x34.1)) λa32=>(Rs.bind (Rs.ok (a32)) λx35=>(Rs.ok (Ctl.nx x35)))))))) (Vb λg37=>(Rs.ok none)))))
noncomputable def YD (a_0:(List (List Int)))(a_1:(List (Int×Int))):Rs (Option (List (Str ⊕ Int))):=(Rs.bind (Rs.bind (Rs.bind (Rs.ok a_1) λx1=>(Rs.ok (x1.length:Int))) λx2=>(Rs.bind (Rs.ok (40:Int)) λx3=>(Rs.ok (decide (x3<x2))))) λx4=>(if x4=true then(Rs.bind (Rs.bind ((Rs.bind (Rs.bind (Rs.ok ("many":Str)) λx9=>(Rs.ok (Sum.inl x9))) λx10=>(Rs.bind (Rs.bind (Rs.bind (Rs.bind (Rs.ok a_1) λx5=>(Rs.ok (x5.length:Int))) λx6=>(Rs.ok (Sum.inr x6))) λx7=>(Rs.bind (Rs.ok []) λx8=>(Rs.ok (x7::x8)))) λx11=>(Rs.ok (x10::x11)))):Rs (List (Str ⊕ Int))) λx12=>(chk (x12.length<=sizeLine) (Rs.ok x12))) λx13=>(Rs.ok (some x13))) else(Rs.bind (Rs.bind (Rs.bind (Rs.ok a_0) λx14=>(Rs.ok (x14.length:Int))) λx15=>(Rs.bind (Rs.ok (12:Int)) λx16=>(Rs.ok (decide (x16<x15))))) λx17=>(if x17=true then(Rs.bind (Rs.bind ((Rs.bind (Rs.bind (Rs.ok ("many":Str)) λx22=>(Rs.ok (Sum.inl x22))) λx23=>(Rs.bind (Rs.bind (Rs.bind (Rs.bind (Rs.ok a_0) λx18=>(Rs.ok (x18.length:Int))) λx19=>(Rs.ok (Sum.inr x19))) λx20=>(Rs.bind (Rs.ok []) λx21=>(Rs.ok (x20::x21)))) λx24=>(Rs.ok (x23::x24)))):Rs (List (Str ⊕ Int))) λx25=>(chk (x25.length<=sizeLine) (Rs.ok x25))) λx26=>(Rs.ok (some x26))) else(Rs.ok none)))))
noncomputable def ZI (a_0:((List (List Int))×(List (Int×Int)))):Rs (Option (List (Str ⊕ Int))):=(Rs.bind (Rs.bind (Rs.ok a_0) λx3=>(Rs.ok x3.1)) λa1=>(Rs.bind (Rs.bind (Rs.ok a_0) λx6=>(Rs.ok x6.2)) λa4=>(Rs.bind (Rs.bind (Rs.ok a1) λx10=>(noE (Ys x10))) λa7=>(Rs.bind (Rs.bind (Rs.ok a1) λx14=>(Rs.bind (Rs.ok a4) λx15=>(Rs.bind (Rs.ok a7) λx16=>(noE (YA x14 x15 x16))))) λa11=>(Rs.bind (Rs.bind (Rs.bind (Rs.ok a11) λx17=>(Rs.ok x17.isNone)) λx18=>(if x18=true then(Rs.bind (Rs.bind (Rs.ok a4) λx24=>(Rs.bind (Rs.ok a7) λx25=>(noE (YB x24 x25)))) λa21=>(Rs.ok (a21))) else(Rs.ok (a11)))) λg27=>(Rs.bind (Rs.bind (Rs.bind (Rs.ok g27) λx28=>(Rs.ok x28.isNone)) λx29=>(if x29=true then(Rs.bind (Rs.bind (Rs.ok a1) λx35=>(Rs.bind (Rs.ok a4) λx36=>(noE (YD x35 x36)))) λa32=>(Rs.ok (a32))) else(Rs.ok (g27)))) λg38=>(Rs.ok g38)))))))
noncomputable def YQ (a_0:Int):Rs Str:=(Rs.bind (Rs.bind (Rs.ok a_0) λx1=>(Rs.bind (Rs.ok (1:Int)) λx2=>(Rs.ok (decide (x1=x2))))) λx3=>(if x3=true then(Rs.ok ("+":Str)) else(Rs.ok ("-":Str))))
noncomputable def X4 (a_0:Int)(a_1:(List (Int×Int))):Rs Str:=(Rs.bind (Rs.bind (Rs.ok a_0) λx1=>(Rs.bind (Rs.ok (0:Int)) λx2=>(Rs.ok (decide (x1<x2))))) λx3=>(if x3=true then(Rs.bind (Rs.ok ("u":Str)) λx6=>(Rs.bind (Rs.bind (Rs.bind (Rs.ok a_0) λx4=>(Rs.ok (-x4))) λx5=>(chk (x5.natAbs.log2<1920) (Rs.ok (sI x5)))) λx7=>(chk (x6.length+x7.length<=sizeLine) (Rs.ok (x6++x7))))) else(Rs.bind (Rs.bind (Rs.ok ("o":Str)) λx9=>(Rs.bind (Rs.bind (Rs.ok a_0) λx8=>(chk (x8.natAbs.log2<1920) (Rs.ok (sI x8)))) λx10=>(chk (x9.length+x10.length<=sizeLine) (Rs.ok (x9++x10))))) λx15=>(Rs.bind (Rs.bind (Rs.bind (Rs.ok a_1) λx12=>(Rs.bind (Rs.ok a_0) λx13=>(ZS x12 x13))) λx14=>(noE (YQ x14))) λx16=>(chk (x15.length+x16.length<=sizeLine) (Rs.ok (x15++x16)))))))
noncomputable def Yf (a_0:((List (List Int))×(List (Int×Int)))):Rs Str:=(Rs.bind (Rs.bind (Rs.bind (Rs.ok a_0) λx4=>(Rs.ok x4.2)) λx3=>(Rs.ok (J9 [] x3))) λa1=>(Rs.bind (Rs.ok []) λa5=>(Rs.bind (Rs.bind (Rs.ok a_0) λx8=>(Rs.ok x8.1)) λx32=>(Rs.bind (forN x32 (a5) (λg11 a13=>(Rs.bind (Rs.ok ("ring":Str)) λa15=>(chk (g11.length<sizeLine) ((λa17=>(Rs.bind (Rs.bind (Rs.ok a13) λx21=>(GL x21 (λa19=>(Rs.bind (Rs.ok a19) λx23=>(Rs.bind (Rs.ok a1) λx24=>(noE (X4 x23 x24))))))) λa25=>(chk (a17.length+a25.length<=sizeLine) ((λa27=>(Rs.ok (a27))) (a17++a25))))) (g11++[a15])))))) λg28=>(Rs.bind (Rs.ok (" ":Str)) λx30=>(Rs.bind (Rs.ok g28) λx31=>(chk ((x31.map (·.length)).sum+x31.length*x30.length<=16777216) (Rs.ok (Txt.join x30 x31)))))))))
noncomputable def YR (a_0:Str):Rs (List Str):=(Rs.bind (Rs.bind (Rs.ok a_0) λx1=>(Rs.bind (Rs.ok ("":Str)) λx2=>(Rs.ok (!(decide (x1=x2)))))) λx5=>(if x5=true then(Rs.bind (Rs.ok a_0) λx3=>(Rs.bind (Rs.ok (" ":Str)) λx4=>(chk ((x4.length==0)=false/\x3.length<=sizeLine/\(Txt.split x3 x4).length<=sizeLine) (Rs.ok (Txt.split x3 x4))))) else(Rs.ok [])))
noncomputable def XV (a_0:Str):Rs Int:=(Rs.bind (Rs.bind (Rs.bind (Rs.ok a_0) λx3=>(Rs.bind (Rs.ok ("-":Str)) λx4=>(Rs.ok (Txt.startswith x3 x4)))) λx9=>(if x9=true then(Rs.bind (Rs.ok a_0) λx6=>(Rs.bind (Rs.bind (Rs.ok (1:Int)) λx5=>(Rs.ok (some x5))) λx7=>(Rs.bind (Rs.ok none) λx8=>(chk (x6.length<=sizeLine) (Rs.ok (Txt.slice x6 x7 x8)))))) else(Rs.ok a_0))) λa1=>(Rs.bind (orR (Rs.bind (Rs.bind (Rs.ok a1) λx10=>(Rs.ok (Txt.isdigit x10))) λx11=>(Rs.ok (!x11))) (Rs.bind (Rs.bind (Rs.ok a1) λx12=>(chk (x12.length<=sizeLine) (Rs.ok (x12.length:Int)))) λx13=>(Rs.bind (Rs.ok (18:Int)) λx14=>(Rs.ok (decide (x14<x13)))))) λx15=>(if x15=true then(Rs.bind (Rs.bind (Rs.ok a_0) λx16=>(chk ((reprText x16).length<=2000) (Rs.ok ()))) λ_=>(Rs.err ⟨"NoLine",Pay.non⟩)) else(Rs.bind (Rs.bind (Rs.ok a_0) BY) λa18=>(Rs.bind (Rs.bind (Rs.bind (Rs.ok a18) λx20=>(chk (x20.natAbs.log2<1920) (Rs.ok (sI x20)))) λx21=>(Rs.bind (Rs.ok a_0) λx22=>(Rs.ok (!(decide (x21=x22)))))) λx23=>(if x23=true then(Rs.bind (Rs.bind (Rs.ok a_0) λx24=>(chk ((reprText x24).length<=2000) (Rs.ok ()))) λ_=>(Rs.err ⟨"NoLine",Pay.non⟩)) else(Rs.ok a18)))))))
noncomputable def Yw (a_0:Str):Rs Int:=(Rs.bind (Rs.bind (Rs.ok a_0) λx3=>(Rs.bind (Rs.bind (Rs.bind (Rs.ok ("+":Str)) λx1=>(Rs.bind (Rs.ok ("-":Str)) λx2=>(Rs.ok (x1,x2)))) λx5=>(Rs.ok [x5.1,x5.2])) λx4=>(Rs.ok (!(decide (x3∈x4)))))) λx6=>(if x6=true then(Rs.bind (Rs.bind (Rs.ok a_0) λx7=>(chk ((reprText x7).length<=2000) (Rs.ok ()))) λ_=>(Rs.err ⟨"NoLine",Pay.non⟩)) else(Rs.bind (Rs.bind (Rs.ok a_0) λx9=>(Rs.bind (Rs.ok ("+":Str)) λx10=>(Rs.ok (decide (x9=x10))))) λx12=>(if x12=true then(Rs.ok (1:Int)) else(Rs.bind (Rs.ok (1:Int)) λx11=>(Rs.ok (-x11)))))))
noncomputable def X5 (a_0:Str):Rs ((List (List Int))×(List (Int×Int))):=(Rs.bind (Rs.ok []) λa1=>(Rs.bind (Rs.ok []) λa4=>(Rs.bind (Rs.bind (Rs.ok a_0) λx8=>(noE (YR x8))) λx99=>(Rs.bind (forN x99 (a1,a4) (λg11 a13=>(Rs.bind (Rs.bind (Rs.bind (Rs.ok a13) λx15=>(Rs.bind (Rs.ok ("ring":Str)) λx16=>(Rs.ok (decide (x15=x16))))) λx17=>(if x17=true then(Rs.bind (Rs.ok []) λa20=>(chk (g11.1.length<sizeLine) ((λa22=>(Rs.ok (a22,g11.2))) (g11.1++[a20])))) else(Rs.bind (Rs.bind (Rs.bind (Rs.ok g11.1) λx23=>(Rs.bind (Rs.ok []) λx24=>(Rs.ok (decide (x23=x24))))) λx25=>(if x25=true then(Rs.bind (Rs.ok ()) λ_=>(Rs.err ⟨"NoLine",Pay.non⟩)) else(Rs.bind (Rs.bind (Rs.bind (Rs.ok a13) λx29=>(Rs.bind (Rs.ok ("o":Str)) λx30=>(Rs.ok (Txt.startswith x29 x30)))) λx31=>(if x31=true then(Rs.bind (Rs.bind (Rs.bind (Rs.ok a13) λx39=>(Rs.bind (Rs.bind (Rs.ok (1:Int)) λx36=>(Rs.ok (some x36))) λx40=>(Rs.bind (Rs.bind (Rs.bind (Rs.ok (1:Int)) λx37=>(Rs.ok (-x37))) λx38=>(Rs.ok (some x38))) λx41=>(chk (x39.length<=sizeLine) (Rs.ok (Txt.slice x39 x40 x41)))))) λx42=>(XV x42)) λa34=>(Rs.bind (Rs.bind (Rs.bind (Rs.ok a13) λx45=>(Rs.bind (Rs.bind (Rs.bind (Rs.ok (1:Int)) λx43=>(Rs.ok (-x43))) λx44=>(Rs.ok (some x44))) λx46=>(Rs.bind (Rs.ok none) λx47=>(chk (x45.length<=sizeLine) (Rs.ok (Txt.slice x45 x46 x47)))))) λx48=>(Yw x48)) λx49=>(Rs.bind (Rs.ok a34) λx50=>(chk (g11.2.length<sizeLine) ((λa51=>(Rs.bind (Rs.bind (Rs.ok (1:Int)) λx53=>(Rs.ok (-x53))) λx55=>(Rs.bind (atR g11.1 x55) λx56=>(Rs.bind (Rs.ok a34) λx54=>(chk (x56.length<sizeLine) (Rs.bind (Vw g11.1 x55 (x56++[x54])) λa57=>(Rs.ok (a51,a57)))))))) (Zg g11.2 x50 x49)))))) else(Rs.bind (Rs.bind (Rs.bind (Rs.ok a13) λx59=>(Rs.bind (Rs.ok ("u":Str)) λx60=>(Rs.ok (Txt.startswith x59 x60)))) λx61=>(if x61=true then(Rs.bind (Rs.bind (Rs.ok (1:Int)) λx70=>(Rs.ok (-x70))) λx72=>(Rs.bind (atR g11.1 x72) λx73=>(Rs.bind (Rs.bind (Rs.bind (Rs.bind (Rs.ok a13) λx65=>(Rs.bind (Rs.bind (Rs.ok (1:Int)) λx64=>(Rs.ok (some x64))) λx66=>(Rs.bind (Rs.ok none) λx67=>(chk (x65.length<=sizeLine) (Rs.ok (Txt.slice x65 x66 x67)))))) λx68=>(XV x68)) λx69=>(Rs.ok (-x69))) λx71=>(chk (x73.length<sizeLine) (Rs.bind (Vw g11.1 x72 (x73++[x71])) λa74=>(Rs.ok (a74))))))) else(Rs.bind (Rs.bind (Rs.ok a13) λx76=>(chk ((reprText x76).length<=2000) (Rs.ok ()))) λ_=>(Rs.err ⟨"NoLine",Pay.non⟩)))) λg79=>(Rs.ok (g11.2,g79))))) λg81=>(Rs.ok (g81.1,g81.2))))) λg83=>(Rs.ok (g83.2,g83.1))))) λg85=>(Rs.ok (g85.1,g85.2))))) λg86=>(Rs.bind (Rs.bind (Rs.ok g86.1) λx92=>(Rs.bind (Rs.bind (Rs.ok g86.2) λx91=>(chk (x91.length<64/\x91.Nodup) (Rs.ok (Q4 ltP x91)))) λx93=>(Rs.ok (x92,x93)))) λa88=>(Rs.bind (Rs.bind (Rs.bind (Rs.ok a88) λx95=>(noE (ZI x95))) λx96=>(Rs.ok x96.isSome)) λx97=>(if x97=true then(Rs.bind (Rs.ok ()) λ_=>(Rs.err ⟨"NoLine",Pay.non⟩)) else(Rs.ok a88))))))))
noncomputable def JF (a_0:(List Int))(a_1:Int):Rs Int:=(Rs.bind (Rs.bind (Rs.ok a_1) λx2=>(Rs.bind (Rs.bind (Rs.ok a_0) λx1=>(Rs.ok (x1.length:Int))) λx3=>(Rs.ok (decide (x2<x3))))) λx4=>(if x4=true then(Rs.bind (Rs.ok a_0) λx5=>(Rs.bind (Rs.ok a_1) λx6=>(atR x5 x6))) else(Rs.bind (Rs.ok (5:Int)) λa7=>(Rs.bind (Rs.bind (Rs.ok a_0) λx10=>(Rs.bind (Rs.ok none) λx11=>(Rs.bind (Rs.bind (Rs.ok (63:Int)) λx9=>(Rs.ok (some x9))) λx12=>(Rs.ok (LH x10 x11 x12))))) λx39=>(Rs.bind (forN x39 (a7) (λg15 a17=>(Rs.bind (Rs.bind (Rs.bind (Rs.bind (Rs.bind (Rs.ok g15) λx21=>(Rs.bind (Rs.ok (48271:Int)) λx22=>(JA x21 x22))) λx25=>(Rs.bind (Rs.bind (Rs.ok a17) λx23=>(Rs.bind (Rs.ok (1000003:Int)) λx24=>(V4 x23 x24))) λx26=>(Rs.ok (x25+x26)))) λx27=>(Rs.bind (Rs.ok (1:Int)) λx28=>(Rs.ok (x27+x28)))) λx29=>(Rs.bind (Rs.ok (2147483647:Int)) λx30=>(V4 x29 x30))) λa19=>(Rs.ok (a19))))) λg31=>(Rs.bind (Rs.bind (Rs.ok g31) λx35=>(Rs.bind (Rs.bind (Rs.ok (7919:Int)) λx33=>(Rs.bind (Rs.ok a_1) λx34=>(JA x33 x34))) λx36=>(Rs.ok (x35+x36)))) λx37=>(Rs.bind (Rs.ok (1000003:Int)) λx38=>(V4 x37 x38))))))))
noncomputable def KZ (a_0:Int)(a_1:Int):Rs Int:=(Rs.bind (Rs.bind (Rs.bind (Rs.bind (Rs.bind (Rs.bind (Rs.ok a_0) λx3=>(Rs.bind (Rs.ok (2147483629:Int)) λx4=>(V4 x3 x4))) λx7=>(Rs.bind (Rs.bind (Rs.ok (1013:Int)) λx5=>(Rs.bind (Rs.ok a_1) λx6=>(JA x5 x6))) λx8=>(Rs.ok (x7+x8)))) λx9=>(Rs.bind (Rs.ok (7919:Int)) λx10=>(Rs.ok (x9+x10)))) λx11=>(Rs.bind (Rs.ok (3:Int)) λx12=>(Es x11 x12))) λx13=>(Rs.bind (Rs.ok (2147483647:Int)) λx14=>(V4 x13 x14))) λa1=>(Rs.bind (Rs.bind (Rs.bind (Rs.bind (Rs.bind (Rs.ok a1) λx17=>(Rs.bind (Rs.ok (40699:Int)) λx18=>(JA x17 x18))) λx23=>(Rs.bind (Rs.bind (Rs.bind (Rs.ok (3793:Int)) λx19=>(Rs.bind (Rs.ok a_1) λx20=>(JA x19 x20))) λx21=>(Rs.bind (Rs.ok a_1) λx22=>(JA x21 x22))) λx24=>(Rs.ok (x23+x24)))) λx25=>(Rs.bind (Rs.ok (11:Int)) λx26=>(Rs.ok (x25+x26)))) λx27=>(Rs.bind (Rs.ok (2147483399:Int)) λx28=>(V4 x27 x28))) λa15=>(Rs.bind (Rs.ok a15) λx29=>(Rs.bind (Rs.ok (101:Int)) λx30=>(Io x29 x30)))))
noncomputable def Kh (a_0:(List Int))(a_1:Int)(a_2:(List Int)):Rs (List Int):=(Rs.bind (Rs.bind (Rs.ok a_0) λx4=>(Rs.bind (Rs.ok a_1) λx5=>(noE (JF x4 x5)))) λa1=>(Rs.bind (Rs.ok a1) λa6=>(Rs.bind (Rs.ok []) λa8=>(Rs.bind (Rs.bind (Rs.bind (Rs.ok a_2) λx11=>(Rs.ok (x11.length:Int))) λx12=>(CO 0 x12)) λx81=>(Rs.bind (forN x81 (a8,a6) (λg15 a17=>(Rs.bind (Rs.bind (Rs.bind (Rs.ok a1) λx21=>(Rs.bind (Rs.bind (Rs.ok (10:Int)) λx19=>(Rs.bind (Rs.ok (18:Int)) λx20=>(Es x19 x20))) λx22=>(Rs.ok (decide (x21<x22))))) λx23=>(if x23=true then(Rs.bind (Rs.bind (Rs.bind (Rs.ok a1) λx27=>(Rs.bind (Rs.ok a17) λx28=>(noE (KZ x27 x28)))) λx31=>(Rs.bind (Rs.bind (Rs.ok a_2) λx29=>(Rs.bind (Rs.ok a17) λx30=>(atR x29 x30))) λx32=>(V4 x31 x32))) λa33=>(chk (g15.1.length<sizeLine) ((λa35=>(Rs.ok (a35,g15.2))) (g15.1++[a33])))) else(Rs.bind (Rs.bind (Rs.bind (Rs.ok g15.2) λx36=>(Rs.bind (Rs.ok (0:Int)) λx37=>(Rs.ok (decide (x37<x36))))) λx38=>(if x38=true then(Rs.bind (Rs.bind (Rs.ok g15.2) λx43=>(Rs.bind (Rs.bind (Rs.ok a_2) λx41=>(Rs.bind (Rs.ok a17) λx42=>(atR x41 x42))) λx44=>(V4 x43 x44))) λa45=>(chk (g15.1.length<sizeLine) ((λa47=>(Rs.bind (Rs.bind (Rs.ok g15.2) λx52=>(Rs.bind (Rs.bind (Rs.ok a_2) λx50=>(Rs.bind (Rs.ok a17) λx51=>(atR x50 x51))) λx53=>(Io x52 x53))) λa48=>(Rs.ok (a48,a47)))) (g15.1++[a45])))) else(Rs.bind (Rs.bind (Rs.ok a_0) λx63=>(Rs.bind (Rs.bind (Rs.bind (Rs.bind (Rs.ok a_1) λx57=>(Rs.bind (Rs.ok (1:Int)) λx58=>(Rs.ok (x57+x58)))) λx59=>(Rs.bind (Rs.ok a17) λx60=>(Rs.ok (x59+x60)))) λx61=>(Rs.bind (Rs.ok (63:Int)) λx62=>(V4 x61 x62))) λx64=>(noE (JF x63 x64)))) λa54=>(Rs.bind (Rs.bind (Rs.bind (Rs.ok a54) λx66=>(Rs.bind (Rs.ok a17) λx67=>(noE (KZ x66 x67)))) λx70=>(Rs.bind (Rs.bind (Rs.ok a_2) λx68=>(Rs.bind (Rs.ok a17) λx69=>(atR x68 x69))) λx71=>(V4 x70 x71))) λa72=>(chk (g15.1.length<sizeLine) ((λa74=>(Rs.ok (g15.2,a74))) (g15.1++[a72]))))))) λg76=>(Rs.ok (g76.2,g76.1))))) λg78=>(Rs.ok (g78.1,g78.2))))) λg79=>(Rs.ok g79.1))))))
noncomputable def QU (a_0:(List Int))(a_1:(List Int)):Rs (List Int):=(Rs.bind (Rs.bind (Rs.ok a_0) λx4=>(Rs.ok x4)) λa1=>(Rs.bind (Rs.ok []) λa5=>(Rs.bind (Rs.bind (Rs.bind (Rs.ok a_0) λx8=>(Rs.ok (x8.length:Int))) λx9=>(CO 0 x9)) λx34=>(Rs.bind (forN x34 (a5,a1) (λg12 a14=>(Rs.bind (Rs.bind (Rs.bind (Rs.ok a_1) λx20=>(Rs.bind (Rs.bind (Rs.bind (Rs.ok (8:Int)) λx16=>(Rs.bind (Rs.ok a14) λx17=>(JA x16 x17))) λx18=>(Rs.bind (Rs.ok (9:Int)) λx19=>(Rs.ok (x18+x19)))) λx21=>(atR x20 x21))) λx23=>(Rs.bind (Rs.bind (Rs.ok g12.2) λx22=>(Rs.ok (x22.length:Int))) λx24=>(V4 x23 x24))) λx30=>(Rs.bind (Cl g12.2 x30) λp31=>(chk (g12.1.length<sizeLine) ((λa26 a27=>(Rs.ok (a27,a26))) p31.2 (g12.1++[p31.1]))))))) λg32=>(Rs.ok g32.1)))))
noncomputable def Ff (a_0:(List Int))(a_1:(List Int))(a_2:Int):Rs (List (List Int)):=(Rs.bind (Rs.ok []) λa1=>(Rs.bind (Rs.ok a_0) λx70=>(Rs.bind (forN x70 (a1) (λg6 a8=>(Rs.bind (Rs.bind (Rs.bind (Rs.ok a8) λx14=>(Rs.bind (Rs.bind (Rs.bind (Rs.ok a8) λx11=>(Rs.ok (-x11))) λx12=>(Rs.bind (Rs.ok []) λx13=>(Rs.ok (x12::x13)))) λx15=>(Rs.ok (x14::x15)))) λx10=>(chk (x10.length<=sizeLine) (Rs.ok x10))) λa16=>(chk (g6.length+a16.length<=sizeLine) ((λa18=>(Rs.ok (a18))) (g6++a16)))))) λg19=>(Rs.bind (Rs.bind (Rs.bind (Rs.ok a_2) λx24=>(CO 0 x24)) λx28=>(GL x28 (λa26=>(Rs.ok [])))) λa21=>(Rs.bind (Rs.bind (Rs.bind (Rs.ok (2:Int)) λx30=>(Rs.bind (Rs.bind (Rs.ok a_0) λx29=>(Rs.ok (x29.length:Int))) λx31=>(JA x30 x31))) λx32=>(CO 0 x32)) λx69=>(Rs.bind (forN x69 (g19,a21) (λg35 a37=>(Rs.bind (Rs.bind (Rs.bind (Rs.ok (4:Int)) λx41=>(Rs.bind (Rs.ok a37) λx42=>(JA x41 x42))) λx43=>(Rs.bind (Rs.ok (5:Int)) λx44=>(Rs.ok (x43+x44)))) λa39=>(Rs.bind (Rs.bind (Rs.bind (Rs.ok a_1) λx45=>(Rs.bind (Rs.ok a39) λx46=>(atR x45 x46))) λx48=>(Rs.bind (Rs.bind (Rs.ok g35.1) λx47=>(Rs.ok (x47.length:Int))) λx49=>(V4 x48 x49))) λx54=>(Rs.bind (Cl g35.1 x54) (λp55=>(λa50 a51=>(Rs.bind (Rs.bind (Rs.bind (Rs.ok a_1) λx58=>(Rs.bind (Rs.bind (Rs.ok a39) λx56=>(Rs.bind (Rs.ok (1:Int)) λx57=>(Rs.ok (x56+x57)))) λx59=>(atR x58 x59))) λx60=>(Rs.bind (Rs.ok a_2) λx61=>(V4 x60 x61))) λx63=>(Rs.bind (atR g35.2 x63) λx64=>(Rs.bind (Rs.ok a50) λx62=>(chk (x64.length<sizeLine) (Rs.bind (Vw g35.2 x63 (x64++[x62])) λa65=>(Rs.ok (a51,a65)))))))) p55.1 p55.2)))))) λg67=>(Rs.ok g67.2)))))))
noncomputable def Zx (a_0:(List Int))(a_1:(List (Int×Int)))(a_2:(List Int))(a_3:Int):Rs (List (List Int)):=(Rs.bind (Rs.bind (Rs.bind (Rs.bind (Rs.ok false) λx7=>(Rs.bind (Rs.ok []) λx8=>(Rs.ok (x7::x8)))) λx6=>(chk (x6.length<=sizeLine) (Rs.ok x6))) λx4=>(Rs.bind (Rs.ok a_3) λx5=>(HG x4 x5))) λa1=>(Rs.bind (Rs.ok []) λa9=>(Rs.bind (Rs.bind (Rs.ok a_3) λx12=>(CO 0 x12)) λx118=>(Rs.bind (forN x118 (a1,a9) (λg15 a17=>(Rs.bind (Rs.bind (Rs.bind (Rs.bind (Rs.ok g15.1) λx19=>(Rs.bind (Rs.ok a17) λx20=>(atR x19 x20))) λx21=>(Rs.ok (!x21))) λx22=>(if x22=true then(Rs.bind (Rs.ok []) λa25=>(Rs.bind (Rs.ok a17) λa28=>(Rs.bind (Jl (a_3.natAbs+2) (g15.1,a28,a25) (λg32=>(Rs.bind (Rs.bind (Rs.ok g32.1) λx34=>(Rs.bind (Rs.ok g32.2.1) λx35=>(atR x34 x35))) λx36=>(Rs.ok (!x36)))) (λg32=>(Rs.bind (Rs.ok true) λx37=>(Rs.bind (Rs.ok g32.2.1) λx38=>(Rs.bind (Vw g32.1 x38 x37) λa39=>(Rs.bind (Rs.bind (Rs.bind (Rs.ok a_0) λx41=>(Rs.ok (x41.length:Int))) λx42=>(CO 0 x42)) λx108=>(Rs.bind (forN x108 (g32.2.1,g32.2.2) (λg45 a47=>(Rs.bind (Rs.bind (Rs.bind (Rs.ok a_2) λx55=>(Rs.bind (Rs.bind (Rs.bind (Rs.ok (8:Int)) λx51=>(Rs.bind (Rs.ok a47) λx52=>(JA x51 x52))) λx53=>(Rs.bind (Rs.ok (10:Int)) λx54=>(Rs.ok (x53+x54)))) λx56=>(atR x55 x56))) λx59=>(Rs.bind (Rs.bind (Rs.ok a_3) λx57=>(Rs.bind (Rs.ok (1:Int)) λx58=>(Rs.ok (x57-x58)))) λx60=>(V4 x59 x60))) λa49=>(Rs.bind (Rs.bind (Rs.bind (Rs.ok g45.1) λx61=>(Rs.bind (Rs.ok a49) λx62=>(Rs.ok (decide (x61=x62))))) λx63=>(if x63=true then(Rs.bind (Rs.bind (Rs.bind (Rs.ok a_0) λx66=>(Rs.bind (Rs.ok a47) λx67=>(atR x66 x67))) λx72=>(Rs.bind (Rs.bind (Rs.ok a_1) λx70=>(Rs.bind (Rs.bind (Rs.ok a_0) λx68=>(Rs.bind (Rs.ok a47) λx69=>(atR x68 x69))) λx71=>(ZS x70 x71))) λx73=>(JA x72 x73))) λa74=>(chk (g45.2.length<sizeLine) ((λa76=>(Rs.bind (Rs.bind (Rs.ok a49) λx79=>(Rs.bind (Rs.ok (1:Int)) λx80=>(Rs.ok (x79+x80)))) λa77=>(Rs.ok (a77,a76)))) (g45.2++[a74])))) else(Rs.bind (Rs.bind (Rs.bind (Rs.ok g45.1) λx83=>(Rs.bind (Rs.bind (Rs.ok a49) λx81=>(Rs.bind (Rs.ok (1:Int)) λx82=>(Rs.ok (x81+x82)))) λx84=>(Rs.ok (decide (x83=x84))))) λx85=>(if x85=true then(Rs.bind (Rs.bind (Rs.bind (Rs.bind (Rs.ok a_0) λx88=>(Rs.bind (Rs.ok a47) λx89=>(atR x88 x89))) λx90=>(Rs.ok (-x90))) λx95=>(Rs.bind (Rs.bind (Rs.ok a_1) λx93=>(Rs.bind (Rs.bind (Rs.ok a_0) λx91=>(Rs.bind (Rs.ok a47) λx92=>(atR x91 x92))) λx94=>(ZS x93 x94))) λx96=>(JA x95 x96))) λa97=>(chk (g45.2.length<sizeLine) ((λa99=>(Rs.bind (Rs.ok a49) λa100=>(Rs.ok (a100,a99)))) (g45.2++[a97])))) else(Rs.ok (g45.1,g45.2)))) λg103=>(Rs.ok (g103.1,g103.2))))) λg105=>(Rs.ok (g105.1,g105.2)))))) λg106=>(Rs.ok (a39,g106.1,g106.2))))))))) λg109=>(Rs.bind (Rs.ok g109.2.2) λa111=>(chk (g15.2.length<sizeLine) ((λa113=>(Rs.ok (g109.1,a113))) (g15.2++[a111]))))))) else(Rs.ok (g15.1,g15.2)))) λg115=>(Rs.ok (g115.1,g115.2))))) λg116=>(Rs.ok g116.2)))))
noncomputable def QW (a_0:(List Int))(a_1:Int)(a_2:Int):Rs ((List (List Int))×(List (Int×Int))):=(Rs.bind (Rs.bind (Rs.bind (Rs.bind (Rs.ok a_2) λx4=>(Rs.bind (Rs.ok (1:Int)) λx5=>(Rs.ok (x4+x5)))) λx14=>(Rs.bind (Rs.bind (Rs.ok (5:Int)) λx12=>(Rs.bind (Rs.bind (Rs.ok (4:Int)) λx10=>(Rs.bind (Rs.bind (Rs.ok (3:Int)) λx8=>(Rs.bind (Rs.bind (Rs.ok (3:Int)) λx6=>(Rs.bind (Rs.ok []) λx7=>(Rs.ok (x6::x7)))) λx9=>(Rs.ok (x8::x9)))) λx11=>(Rs.ok (x10::x11)))) λx13=>(Rs.ok (x12::x13)))) λx15=>(Rs.ok (x14::x15)))) λx3=>(chk (x3.length<=sizeLine) (Rs.ok x3))) λa1=>(Rs.bind (Rs.bind (Rs.ok a_0) λx34=>(Rs.bind (Rs.ok a_1) λx35=>(Rs.bind (Rs.bind (Rs.ok a1) λx19=>(Rs.bind (Rs.bind (Rs.bind (Rs.bind (Rs.ok (80:Int)) λx30=>(Rs.bind (Rs.bind (Rs.ok (5:Int)) λx28=>(Rs.bind (Rs.bind (Rs.ok (2:Int)) λx26=>(Rs.bind (Rs.bind (Rs.ok (3:Int)) λx24=>(Rs.bind (Rs.ok []) λx25=>(Rs.ok (x24::x25)))) λx27=>(Rs.ok (x26::x27)))) λx29=>(Rs.ok (x28::x29)))) λx31=>(Rs.ok (x30::x31)))) λx23=>(chk (x23.length<=sizeLine) (Rs.ok x23))) λx21=>(Rs.bind (Rs.bind (Rs.ok (2:Int)) λx32=>(Rs.bind (Rs.ok a_2) λx33=>(JA x32 x33))) λx22=>(HG x21 x22))) λx20=>(Ic x19 x20))) λx36=>(noE (Kh x34 x35 x36))))) λa16=>(Rs.bind (Rs.ok []) λa37=>(Rs.bind (Rs.ok []) λa40=>(Rs.bind (Rs.ok (0:Int)) λa43=>(Rs.bind (Rs.bind (Rs.bind (Rs.ok a16) λx45=>(Rs.bind (Rs.ok (0:Int)) λx46=>(atR x45 x46))) λx47=>(CO 0 x47)) λx152=>(Rs.bind (forN x152 (a43,a40,a37) (λg50 a52=>(Rs.bind (Rs.bind (Rs.bind (Rs.ok a16) λx60=>(Rs.bind (Rs.bind (Rs.bind (Rs.ok (8:Int)) λx56=>(Rs.bind (Rs.ok a52) λx57=>(JA x56 x57))) λx58=>(Rs.bind (Rs.ok (8:Int)) λx59=>(Rs.ok (x58+x59)))) λx61=>(atR x60 x61))) λx75=>(Rs.bind (Rs.bind (Rs.bind (Rs.bind (Rs.ok (0:Int)) λx69=>(Rs.bind (Rs.bind (Rs.ok (1:Int)) λx67=>(Rs.bind (Rs.bind (Rs.bind (Rs.ok (10:Int)) λx63=>(Rs.bind (Rs.ok (9:Int)) λx64=>(Es x63 x64))) λx65=>(Rs.bind (Rs.ok []) λx66=>(Rs.ok (x65::x66)))) λx68=>(Rs.ok (x67::x68)))) λx70=>(Rs.ok (x69::x70)))) λx62=>(chk (x62.length<=sizeLine) (Rs.ok x62))) λx73=>(Rs.bind (Rs.bind (Rs.ok a16) λx71=>(Rs.bind (Rs.ok (3:Int)) λx72=>(atR x71 x72))) λx74=>(atR x73 x74))) λx76=>(JA x75 x76))) λa54=>(Rs.bind (Rs.bind (Rs.bind (Rs.ok g50.1) λx79=>(Rs.bind (Rs.ok (1:Int)) λx80=>(Rs.ok (x79+x80)))) λx81=>(Rs.bind (Rs.ok a54) λx82=>(Rs.ok (x81+x82)))) λa77=>(Rs.bind (Rs.ok a77) λa83=>(chk (g50.2.2.length<sizeLine) ((λa85=>(Rs.bind (Rs.bind (Rs.bind (Rs.ok (2:Int)) λx92=>(Rs.bind (Rs.bind (Rs.ok a16) λx90=>(Rs.bind (Rs.bind (Rs.bind (Rs.ok (8:Int)) λx86=>(Rs.bind (Rs.ok a52) λx87=>(JA x86 x87))) λx88=>(Rs.bind (Rs.ok (7:Int)) λx89=>(Rs.ok (x88+x89)))) λx91=>(atR x90 x91))) λx93=>(JA x92 x93))) λx94=>(Rs.bind (Rs.ok (1:Int)) λx95=>(Rs.ok (x94-x95)))) λx96=>(Rs.bind (Rs.ok a77) λx97=>(chk (g50.2.1.length<sizeLine) ((λa98=>(Rs.ok (a77,a98,a85))) (Zg g50.2.1 x97 x96)))))) (g50.2.2++[a83])))))))) λg100=>(Rs.bind (Rs.bind (Rs.bind (Rs.bind (Rs.ok a16) λx102=>(Rs.bind (Rs.ok (2:Int)) λx103=>(atR x102 x103))) λx104=>(Rs.bind (Rs.ok (2:Int)) λx105=>(Rs.ok (decide (x104<x105))))) λx106=>(if x106=true then(Rs.bind (Rs.bind (Rs.bind (Rs.ok g100.2.2) λx114=>(Rs.bind (Rs.ok a16) λx115=>(noE (QU x114 x115)))) λx120=>(Rs.bind (Rs.ok g100.2.1) λx121=>(Rs.bind (Rs.ok a16) λx122=>(Rs.bind (Rs.bind (Rs.ok (2:Int)) λx118=>(Rs.bind (Rs.bind (Rs.ok a16) λx116=>(Rs.bind (Rs.ok (4:Int)) λx117=>(atR x116 x117))) λx119=>(Rs.ok (x118+x119)))) λx123=>(noE (Zx x120 x121 x122 x123)))))) λa109=>(Rs.ok (a109))) else(Rs.bind (Rs.bind (Rs.bind (Rs.ok a16) λx126=>(Rs.bind (Rs.ok (1:Int)) λx127=>(atR x126 x127))) λx131=>(Rs.bind (Rs.bind (Rs.bind (Rs.ok g100.2.2) λx128=>(Rs.ok (x128.length:Int))) λx129=>(Rs.bind (Rs.ok (1:Int)) λx130=>(Rs.ok (min x129 x130)))) λx132=>(Rs.ok (max x131 x132)))) λa124=>(Rs.bind (Rs.bind (Rs.ok g100.2.2) λx137=>(Rs.bind (Rs.ok a16) λx138=>(Rs.bind (Rs.ok a124) λx139=>(noE (Ff x137 x138 x139))))) λa133=>(Rs.ok (a133)))))) λg141=>(Rs.bind (Rs.ok g141) λx150=>(Rs.bind (Rs.bind (Rs.ok g100.2.2) λx145=>(GL x145 (λa143=>(Rs.bind (Rs.ok a143) λx148=>(Rs.bind (Rs.bind (Rs.ok g100.2.1) λx146=>(Rs.bind (Rs.ok a143) λx147=>(ZS x146 x147))) λx149=>(Rs.ok (x148,x149))))))) λx151=>(Rs.ok (x150,x151))))))))))))
noncomputable def VG (a_0:((List (List Int))×(List (Int×Int)))):Rs ((List (List Int))×(List (Int×Int))):=(Rs.bind (Rs.bind (Rs.bind (Rs.ok a_0) λx1=>(Rs.ok x1.1)) λx5=>(GL x5 (λa3=>(Rs.bind (Rs.ok a3) λx6=>(Rs.ok x6))))) λx9=>(Rs.bind (Rs.bind (Rs.bind (Rs.ok a_0) λx8=>(Rs.ok x8.2)) λx7=>(Rs.ok x7)) λx10=>(Rs.ok (x9,x10))))
noncomputable def YO (a_0:Int):Rs Bool:=(L6 (Rs.bind (Rs.ok a_0) λx1=>(Rs.ok true)) (Rs.bind (Rs.bind (Rs.ok a_0) λx2=>(Rs.ok false)) λx3=>(Rs.ok (!x3))))
noncomputable def YC (a_0:((List (List Int))×(List (Int×Int)))):Rs Bool:=(Rs.bind (orR (Rs.bind (Rs.bind (Rs.ok a_0) λx1=>(Rs.ok true)) λx2=>(Rs.ok (!x2))) (Rs.bind (Rs.bind (Rs.ok a_0) λ_=>(Rs.ok (2:Int))) λx4=>(Rs.bind (Rs.ok (2:Int)) λx5=>(Rs.ok (!(decide (x4=x5))))))) λx6=>(if x6=true then(Rs.ok false) else(Rs.bind (orR (Rs.bind (Rs.bind (Rs.bind (Rs.ok a_0) λx7=>(Rs.ok x7.1)) λx8=>(Rs.ok true)) λx9=>(Rs.ok (!x9))) (Rs.bind (Rs.bind (Rs.bind (Rs.ok a_0) λx10=>(Rs.ok x10.2)) λx11=>(Rs.ok true)) λx12=>(Rs.ok (!x12)))) λx13=>(if x13=true then(Rs.ok false) else(Rs.bind (Rs.bind (Rs.ok a_0) λx14=>(Rs.ok x14.1)) λx72=>(Rs.bind (forC x72 () (λg17 a19=>(Rs.bind (Rs.bind (Rs.bind (Rs.ok a19) λx21=>(Rs.ok true)) λx22=>(Rs.ok (!x22))) λx23=>(if x23=true then(Rs.bind (Rs.ok false) λx40=>(Rs.ok (Ctl.ret x40))) else(Rs.bind (Rs.ok a19) λx39=>(Rs.bind (forC x39 () (λg26 a28=>(Rs.bind (Rs.bind (Rs.bind (Rs.ok a28) λx31=>(noE (YO x31))) λx32=>(Rs.ok (!x32))) λx33=>(if x33=true then(Rs.bind (Rs.ok false) λx35=>(Rs.ok (Ctl.ret x35))) else(Rs.bind (Rs.ok ()) λx34=>(Rs.ok (Ctl.nx x34))))))) (Q0 λg36=>(Rs.bind (Rs.ok ()) λx38=>(Rs.ok (Ctl.nx x38)))))))))) (Vb λg41=>(Rs.bind (Rs.bind (Rs.ok a_0) λx43=>(Rs.ok x43.2)) λx71=>(Rs.bind (forC x71 () (λg46 a48=>(Rs.bind (orR (Rs.bind (Rs.bind (Rs.ok a48) λx50=>(Rs.ok true)) λx51=>(Rs.ok (!x51))) (Rs.bind (Rs.bind (Rs.bind (Rs.ok a48) λx53=>(Rs.ok [x53.1,x53.2])) λx52=>(Rs.ok (x52.length:Int))) λx54=>(Rs.bind (Rs.ok (2:Int)) λx55=>(Rs.ok (!(decide (x54=x55))))))) λx56=>(if x56=true then(Rs.bind (Rs.ok false) λx68=>(Rs.ok (Ctl.ret x68))) else(Rs.bind (orR (Rs.bind (Rs.bind (Rs.bind (Rs.ok a48) λx58=>(Rs.ok x58.1)) λx59=>(noE (YO x59))) λx60=>(Rs.ok (!x60))) (Rs.bind (Rs.bind (Rs.bind (Rs.ok a48) λx62=>(Rs.ok x62.2)) λx63=>(noE (YO x63))) λx64=>(Rs.ok (!x64)))) λx65=>(if x65=true then(Rs.bind (Rs.ok false) λx67=>(Rs.ok (Ctl.ret x67))) else(Rs.bind (Rs.ok ()) λx66=>(Rs.ok (Ctl.nx x66))))))))) (Vb λg69=>(Rs.ok true)))))))))))
noncomputable def Vx (a_0:((List (List Int))×(List (Int×Int)))):Rs Str:=(Rs.bind (Rs.ok []) λa1=>(Rs.bind (Rs.bind (Rs.ok a_0) λx4=>(Rs.ok x4.2)) λx79=>(Rs.bind (forN x79 (a1) (λg7 a9=>(Rs.bind (Rs.ok ("+":Str)) λx11=>(Rs.bind (Rs.ok a9.1) λx12=>(chk (g7.length<sizeLine) ((λa13=>(Rs.bind (Rs.bind (Rs.bind (Rs.ok a9.2) λx15=>(Rs.bind (Rs.ok (0:Int)) λx16=>(Rs.ok (decide (x15<x16))))) λx17=>(if x17=true then(Rs.bind (Rs.ok ("-":Str)) λx20=>(Rs.bind (Rs.ok a9.1) λx21=>(chk (a13.length<sizeLine) ((λa22=>(Rs.ok (a22))) (Zg a13 x21 x20))))) else(Rs.ok (a13)))) λg25=>(Rs.ok (g25)))) (Zg g7 x12 x11))))))) λg26=>(Rs.bind (Rs.ok []) λa28=>(Rs.bind (Rs.bind (Rs.ok a_0) λx31=>(Rs.ok x31.1)) λx78=>(Rs.bind (forN x78 (a28) (λg34 a36=>(Rs.bind (Rs.ok ("ring":Str)) λa38=>(chk (g34.length<sizeLine) ((λa40=>(Rs.bind (Rs.ok a36) λx73=>(Rs.bind (forN x73 (a40) (λg43 a45=>(Rs.bind (Rs.bind (Rs.bind (Rs.ok a45) λx47=>(Rs.bind (Rs.ok (0:Int)) λx48=>(Rs.ok (decide (x47<x48))))) λx49=>(if x49=true then(Rs.bind (Rs.bind (Rs.ok ("u":Str)) λx54=>(Rs.bind (Rs.bind (Rs.bind (Rs.ok a45) λx52=>(Rs.ok (-x52))) λx53=>(chk (x53.natAbs.log2<1920) (Rs.ok (sI x53)))) λx55=>(chk (x54.length+x55.length<=sizeLine) (Rs.ok (x54++x55))))) λa56=>(chk (g43.length<sizeLine) ((λa58=>(Rs.ok (a58))) (g43++[a56])))) else(Rs.bind (Rs.bind (Rs.bind (Rs.ok ("o":Str)) λx60=>(Rs.bind (Rs.bind (Rs.ok a45) λx59=>(chk (x59.natAbs.log2<1920) (Rs.ok (sI x59)))) λx61=>(chk (x60.length+x61.length<=sizeLine) (Rs.ok (x60++x61))))) λx64=>(Rs.bind (Rs.bind (Rs.ok g26) λx62=>(Rs.bind (Rs.ok a45) λx63=>(ZS x62 x63))) λx65=>(chk (x64.length+x65.length<=sizeLine) (Rs.ok (x64++x65))))) λa66=>(chk (g43.length<sizeLine) ((λa68=>(Rs.ok (a68))) (g43++[a66])))))) λg70=>(Rs.ok (g70))))) λg71=>(Rs.ok (g71))))) (g34++[a38])))))) λg74=>(Rs.bind (Rs.ok (" ":Str)) λx76=>(Rs.bind (Rs.ok g74) λx77=>(chk ((x77.map (·.length)).sum+x77.length*x76.length<=16777216) (Rs.ok (Txt.join x76 x77)))))))))))
noncomputable def Zv (a_0:((List (List Int))×(List (Int×Int))))(a_1:Int):Rs ((List (List Int))×(List (Int×Int))):=(Rs.bind (Rs.ok []) λa1=>(Rs.bind (Rs.bind (Rs.ok a_0) λx4=>(Rs.ok x4.1)) λx56=>(Rs.bind (forN x56 (a1) (λg7 a9=>(Rs.bind (Rs.ok []) λa11=>(Rs.bind (Rs.ok a9) λx42=>(Rs.bind (forN x42 (a11) (λg16 a18=>(Rs.bind (Rs.bind (Rs.bind (Rs.ok a18) λx20=>(Rs.bind (Rs.ok (0:Int)) λx21=>(Rs.ok (decide (x20<x21))))) λx22=>(if x22=true then(Rs.bind (Rs.bind (Rs.ok a18) λx25=>(Rs.bind (Rs.ok a_1) λx26=>(Rs.ok (x25-x26)))) λa27=>(chk (g16.length<sizeLine) ((λa29=>(Rs.ok (a29))) (g16++[a27])))) else(Rs.bind (Rs.bind (Rs.ok a18) λx30=>(Rs.bind (Rs.ok a_1) λx31=>(Rs.ok (x30+x31)))) λa32=>(chk (g16.length<sizeLine) ((λa34=>(Rs.ok (a34))) (g16++[a32])))))) λg36=>(Rs.ok (g36))))) λg37=>(Rs.bind (Rs.ok g37) λa39=>(chk (g7.length<sizeLine) ((λa41=>(Rs.ok (a41))) (g7++[a39]))))))))) λg43=>(Rs.bind (Rs.ok g43) λx54=>(Rs.bind (Rs.bind (Rs.bind (Rs.ok a_0) λx45=>(Rs.ok x45.2)) λx49=>(GL x49 (λa47=>(Rs.bind (Rs.bind (Rs.ok a47.1) λx50=>(Rs.bind (Rs.ok a_1) λx51=>(Rs.ok (x50+x51)))) λx52=>(Rs.bind (Rs.ok a47.2) λx53=>(Rs.ok (x52,x53))))))) λx55=>(Rs.ok (x54,x55)))))))
noncomputable def VM (a_0:Str):Rs ((Str×Bool) ⊕ (Str×((List (List Int))×(List (Int×Int))))):=(Rs.tryC (Rs.bind (Rs.ok a_0) λx11=>(X5 x11)) (λa8=>(Rs.bind (Rs.bind (Rs.ok ("yes":Str)) λx12=>(Rs.bind (Rs.ok a8) λx13=>(Rs.ok (x12,x13)))) λx14=>(Rs.ok (Sum.inr x14)))) (λx1=>(chk (cau XL x1.cls "PlaitError" =true) (Rs.bind (orR (Rs.ok (Zb x1.cls "NotADrawing")) (Rs.ok (Zb x1.cls "NoFit"))) λa2=>(Rs.bind (Rs.bind (Rs.ok ("no":Str)) λx5=>(Rs.bind (L6 (Rs.ok (Zb x1.cls "NoLine")) (Rs.bind (Rs.ok a2) λx4=>(Rs.ok (!x4)))) λx6=>(Rs.ok (x5,x6)))) λx7=>(Rs.ok (Sum.inl x7)))))))
noncomputable def ZT (a_0:((List (List Int))×(List (Int×Int)))):Rs Bool:=(Rs.bind (Rs.bind (Rs.ok a_0) λx4=>(noE (VG x4))) λa1=>(Rs.bind (Rs.bind (Rs.ok a1) λx8=>(noE (Yf x8))) λa5=>(Rs.bind (orR (Rs.bind (Rs.ok a1) λx9=>(Rs.bind (Rs.ok a_0) λx10=>(Rs.ok (!(decide (x9=x10)))))) (Rs.bind (Rs.bind (Rs.ok a5) λx11=>(Rs.ok true)) λx12=>(Rs.ok (!x12)))) λx13=>(if x13=true then(Rs.ok false) else(Rs.bind (Rs.bind (Rs.ok a5) λx16=>(Rs.bind (Rs.bind (Rs.ok a_0) λx15=>(noE (Vx x15))) λx17=>(Rs.ok (!(decide (x16=x17)))))) λx18=>(if x18=true then(Rs.ok false) else(Rs.bind (Rs.bind (Rs.ok a5) λx23=>(noE (VM x23))) λa19=>(Rs.bind (Rs.bind (Rs.bind (Rs.bind (Rs.bind (Rs.ok a_0) λx24=>(Rs.ok x24.2)) λx28=>(LU x28 (λa26=>(Rs.bind (Rs.ok a26.1) λx31=>(Rs.bind (Rs.bind (Rs.ok (10:Int)) λx29=>(Rs.bind (Rs.ok (18:Int)) λx30=>(Es x29 x30))) λx32=>(Rs.ok (decide (x32<=x31)))))) (λa26=>(Rs.ok a26.1)))) λx33=>(Rs.ok (x33.length:Int))) λx34=>(Rs.bind (Rs.ok (0:Int)) λx35=>(Rs.ok (decide (x35<x34))))) λx36=>(if x36=true then(Rs.bind (Rs.ok a19) λx39=>(Rs.bind (Rs.bind (Rs.bind (Rs.ok ("no":Str)) λx37=>(Rs.bind (Rs.ok true) λx38=>(Rs.ok (x37,x38)))) λx41=>(Rs.ok (Sum.inl x41:((Str×Bool) ⊕ (Str×((List (List Int))×(List (Int×Int)))))))) λx40=>(Rs.ok (decide (x39=x40))))) else(Rs.bind (orR (Rs.bind (Rs.bind (Rs.ok a19) λx42=>(Rs.ok (EL x42))) λx43=>(Rs.bind (Rs.ok ("yes":Str)) λx44=>(Rs.ok (!(decide (x43=x44)))))) (Rs.bind (Rs.bind (Rs.bind (Rs.bind (Rs.ok a19) getR) λx46=>(Rs.ok x46.2)) λx47=>(noE (YC x47))) λx48=>(Rs.ok (!x48)))) λx49=>(if x49=true then(Rs.ok false) else(Rs.bind (Rs.bind (Rs.bind (Rs.bind (Rs.ok a19) getR) λx50=>(Rs.ok x50.2)) λx51=>(Rs.bind (Rs.ok a_0) λx52=>(Rs.ok (!(decide (x51=x52)))))) λx53=>(if x53=true then(Rs.ok false) else(Rs.bind (getR a19) λb54=>(chk (∀row∈b54.2.1,row.length<sizeLine) ((λa62=>(Rs.bind (Rs.bind (Rs.ok (0:Int)) λx63=>(Rs.bind (Rs.ok (0:Int)) λx64=>(Rs.ok (x63,x64)))) λa65=>(chk (b54.2.2.length<sizeLine) ((λa67=>(Rs.bind (Rs.ok a62) λx78=>(Rs.bind (Rs.bind (Rs.bind (Rs.ok a_0) λx68=>(Rs.ok x68.1)) λx72=>(GL x72 (λa70=>(Rs.bind (Rs.ok a70) λx73=>(Rs.bind (Rs.bind (Rs.bind (Rs.ok (1:Int)) λx76=>(Rs.bind (Rs.ok []) λx77=>(Rs.ok (x76::x77)))) λx75=>(chk (x75.length<=sizeLine) (Rs.ok x75))) λx74=>(Ic x73 x74)))))) λx79=>(Rs.ok (decide (x78=x79)))))) (b54.2.2++[a65]))))) (b54.2.1.map (· ++[1]))))))))))))))))))
noncomputable def KY (a_0:(List Int)):Rs Bool:=(Rs.bind (Rs.bind (Rs.ok a_0) λx4=>(Rs.bind (Rs.ok (0:Int)) λx5=>(Rs.bind (Rs.ok (20:Int)) λx6=>(noE (QW x4 x5 x6))))) λa1=>(Rs.bind (Rs.bind (Rs.ok a_0) λx15=>(Rs.bind (Rs.ok (1:Int)) λx16=>(Rs.bind (Rs.bind (Rs.bind (Rs.ok (4:Int)) λx13=>(Rs.bind (Rs.bind (Rs.ok (3:Int)) λx11=>(Rs.bind (Rs.ok []) λx12=>(Rs.ok (x11::x12)))) λx14=>(Rs.ok (x13::x14)))) λx10=>(chk (x10.length<=sizeLine) (Rs.ok x10))) λx17=>(noE (Kh x15 x16 x17))))) λa7=>(Rs.bind (Rs.ok (1:Int)) λa18=>(Rs.bind (Rs.bind (Rs.ok a1) λx20=>(Rs.ok x20.2)) λx72=>(Rs.bind (forN x72 (a18) (λg23 a25=>(Rs.bind (Rs.ok a25.1) λa27=>(Rs.ok (a27))))) λg29=>(Rs.bind (Rs.bind (Rs.bind (Rs.bind (Rs.ok (0:Int)) λx52=>(Rs.bind (Rs.bind (Rs.ok (0:Int)) λx50=>(Rs.bind (Rs.bind (Rs.bind (Rs.ok (10:Int)) λx34=>(Rs.bind (Rs.ok (17:Int)) λx35=>(Es x34 x35))) λx48=>(Rs.bind (Rs.bind (Rs.bind (Rs.bind (Rs.bind (Rs.bind (Rs.ok (10:Int)) λx36=>(Rs.bind (Rs.ok (18:Int)) λx37=>(Es x36 x37))) λx38=>(Rs.bind (Rs.ok g29) λx39=>(Rs.ok (x38-x39)))) λx40=>(Rs.bind (Rs.ok (1:Int)) λx41=>(Rs.ok (x40-x41)))) λx44=>(Rs.bind (Rs.bind (Rs.ok a7) λx42=>(Rs.bind (Rs.ok (1:Int)) λx43=>(atR x42 x43))) λx45=>(Rs.ok (x44+x45)))) λx46=>(Rs.bind (Rs.ok []) λx47=>(Rs.ok (x46::x47)))) λx49=>(Rs.ok (x48::x49)))) λx51=>(Rs.ok (x50::x51)))) λx53=>(Rs.ok (x52::x53)))) λx33=>(chk (x33.length<=sizeLine) (Rs.ok x33))) λx56=>(Rs.bind (Rs.bind (Rs.ok a7) λx54=>(Rs.bind (Rs.ok (0:Int)) λx55=>(atR x54 x55))) λx57=>(atR x56 x57))) λa31=>(Rs.bind (Rs.bind (Rs.ok a1) λx61=>(Rs.bind (Rs.ok a31) λx62=>(noE (Zv x61 x62)))) λa58=>(Rs.bind (orR (Rs.bind (Rs.bind (Rs.ok a58) λx64=>(noE (ZT x64))) λx65=>(Rs.ok (!x65))) (Rs.bind (Rs.bind (Rs.ok a1) λx67=>(noE (ZT x67))) λx68=>(Rs.ok (!x68)))) λx69=>(if x69=true then(Rs.ok false) else(Rs.bind (Rs.ok a58) λx71=>(noE (ZT x71))))))))))))
end My
namespace L2
open PySem
section
variable {α β γ ρ:Type}
theorem Rs.okb (a:α)(f:α->Rs β):(Rs.ok a).bind f=f a:=(Eq.refl (f a)).symm.symm
theorem Dg {f:α->Rs β}{h:α->β}:∀{as:List α},(∀a∈as,f a= .ok (h a))->Fm as f= .ok (as.map h)
 | [],_=>rfl
 |a::as,hf=>by
  show(f a).bind _=_
  rw[hf a (by simp),Rs.ok_bind,Dg λb hb=>hf b (by simp[hb])];rfl
theorem Qc {f:α->Rs β}{h:α->β}{as:List α}(hl:as.length<=sizeLine)(hf:∀a∈as,f a= .ok (h a)):GL as f= .ok (as.map h):=by
 unfold GL;rw[Xj hl];exact Dg hf
theorem Dt {c:α->Rs Bool}{f:α->Rs β}{p:α->Bool}{h:α->β}:∀{as:List α},(∀a∈as,c a= .ok (p a))->(∀a∈as,p a=true->f a= .ok (h a))->Gi as c f= .ok ((as.filter p).map h)
 | [],_,_=>rfl
 |a::as,hc,hf=>by
  show(c a).bind _=_
  rw[hc a (by simp),Rs.ok_bind]
  have ih:=Dt (as:=as) (λb hb=>hc b (by simp[hb])) λb hb=>hf b (by simp[hb])
  cases hp:p a with
  |false=>rw[if_neg (by simp),ih,List.filter_cons,hp];rfl
  |true=>rw[if_pos rfl,hf a (by simp) hp,Rs.ok_bind,ih,List.filter_cons,hp];rfl
theorem Hg {c:α->Rs Bool}{f:α->Rs β}{p:α->Bool}{h:α->β}{as:List α}(hl:as.length<=sizeLine)(hc:∀a∈as,c a= .ok (p a))(hf:∀a∈as,p a=true->f a= .ok (h a)):LU as c f= .ok ((as.filter p).map h):=by
 unfold LU;rw[Xj hl];exact Dt hc hf
theorem Uy {f:γ->α->Rs γ}(P:Nat->γ->Prop):∀(as:List α) (k:Nat) (g:γ),P k g->(∀i a g,as[i]?=some a->P (k+i) g->∃g',f g a= .ok g'/\P (k+i+1) g')->∃g',forN as g f= .ok g'/\P (k+as.length) g'
 | [],k,g,h0,_=>⟨g,rfl,h0⟩
 |a::as,k,g,h0,hs=>by
  obtain⟨g1,e1,p1⟩:=hs 0 a g rfl h0
  obtain⟨g2,e2,p2⟩:=Uy P as (k+1) g1 p1 λi b g hb hp=>by
   obtain⟨g',e',p'⟩:=hs (i+1) b g (by simpa using hb) (by rw[show k+(i+1)=k+1+i by omega];exact hp)
   exact⟨g',e',by rw[show k+1+i+1=k+(i+1)+1 by omega];exact p'⟩
  refine⟨g2,?_,by rw[List.length_cons,show k+(as.length+1)=k+1+as.length by omega];exact p2⟩
  show(f g a).bind _=_
  rw[e1,Rs.ok_bind];exact e2
theorem GP {f:γ->α->Rs γ}(P:Nat->γ->Prop){as:List α}{g:γ}(h0:P 0 g)(hs:∀i a g,as[i]?=some a->P i g->∃g',f g a= .ok g'/\P (i+1) g'):∃g',forN as g f= .ok g'/\P as.length g':=by
 have:=Uy P as 0 g h0 (by simpa using hs)
 simpa using this
theorem Qy {f:List β->α->Rs (List β)}{h:α->β}:∀{as:List α}{g:List β},g.length+as.length<=sizeLine->(∀g:List β,g.length<sizeLine->∀a∈as,f g a= .ok (g++[h a]))->forN as g f= .ok (g++as.map h)
 | [],g,_,_=>by simp[forN]
 |a::as,g,hl,hf=>by
  show(f g a).bind _=_
  rw[List.length_cons] at hl
  rw[hf g (by omega) a (by simp),Rs.ok_bind,Qy (by simp;omega) λg hg b hb=>hf g hg b (by simp[hb])]
  simp
theorem Je {f:γ->α->Rs (Ctl ρ γ)}:∀{as:List α}{g:γ},(∀a∈as,f g a= .ok (.nx g))->forC as g f= .ok (.nx g)
 | [],_,_=>rfl
 |a::as,g,hf=>by
  show(f g a).bind _=_
  rw[hf a (by simp),Rs.ok_bind]
  exact Je λb hb=>hf b (by simp[hb])
theorem UZ {f:γ->α->Rs (Ctl ρ γ)}(P:Nat->γ->Prop):∀(as:List α) (k:Nat) (g:γ),P k g->(∀i a g,as[i]?=some a->P (k+i) g->∃g',f g a= .ok (.nx g')/\P (k+i+1) g')->∃g',forC as g f= .ok (.nx g')/\P (k+as.length) g'
 | [],k,g,h0,_=>⟨g,rfl,h0⟩
 |a::as,k,g,h0,hs=>by
  obtain⟨g1,e1,p1⟩:=hs 0 a g rfl h0
  obtain⟨g2,e2,p2⟩:=UZ P as (k+1) g1 p1 λi b g hb hp=>by
   obtain⟨g',e',p'⟩:=hs (i+1) b g (by simpa using hb) (by rw[show k+(i+1)=k+1+i by omega];exact hp)
   exact⟨g',e',by rw[show k+1+i+1=k+(i+1)+1 by omega];exact p'⟩
  refine⟨g2,?_,by rw[List.length_cons,show k+(as.length+1)=k+1+as.length by omega];exact p2⟩
  show(f g a).bind _=_
  rw[e1,Rs.ok_bind];exact e2
theorem BD {f:γ->α->Rs (Ctl ρ γ)}(P:Nat->γ->Prop){as:List α}{g:γ}(h0:P 0 g)(hs:∀i a g,as[i]?=some a->P i g->∃g',f g a= .ok (.nx g')/\P (i+1) g'):∃g',forC as g f= .ok (.nx g')/\P as.length g':=by
 have:=UZ P as 0 g h0 (by simpa using hs)
 simpa using this
theorem Zn {a b:Int}(h:0<b):V4 a b= .ok (a % b):=Xj h
theorem Ze {a b:Int}(h1: -(2^64)<a)(h2:a<2^64):JA a b= .ok (a*b):=Xj (.inl ⟨h1,h2⟩)
theorem Jx {a b:Int}(h1: -(2^64)<b)(h2:b<2^64):JA a b= .ok (a*b):=Xj (.inr ⟨h1,h2⟩)
theorem Ek {a b:Int}(h:0<b)(h2:b<2^250):Io a b= .ok (a/b):=Xj ⟨h,by
 have h3:b.natAbs<2^250:=by omega
 rcases Nat.eq_zero_or_pos b.natAbs with h0 |h0
 ·omega
 ·have:=(Nat.log2_lt (by omega)).mpr h3
  omega⟩
theorem Vk {a b:Int}(h0:0<=b)(h1:b<=1000000)(h2: -(2^64)<a)(h3:a<2^64):Es a b= .ok (a^b.toNat):=Xj ⟨h0,h1,by omega⟩
theorem Vv {as:List α}{i:Nat}{a:α}(h:as[i]?=some a):atR as (i:Int)= .ok a:=by
 have hlt:=(List.getElem?_eq_some_iff.mp h).1
 unfold atR atI ixN
 rw[if_pos (by omega),if_pos (by omega)]
 simp[h]
theorem Lu {as:List α}{i:Int}{a:α}(h0:0<=i)(h:as[i.toNat]?=some a):atR as i= .ok a:=by
 have:i=(i.toNat:Int):=by omega
 rw[this];exact Vv h
theorem JM {n:Nat}(h:n<2^62):CO 0 (n:Int)= .ok ((List.range n).map λ(i:Nat)=>(i:Int)):=by
 unfold CO
 rw[Xj (by omega)]
 unfold Vo
 congr 1
 rw[Int.sub_zero,Int.toNat_natCast]
 exact List.map_congr_left λi _=>by omega
theorem Zz {n i:Nat}{a:Int}(h:((List.range n).map λ(i:Nat)=>(i:Int))[i]?=some a):a=(i:Int)/\i<n:=by
 have hlt:=(List.getElem?_eq_some_iff.mp h).1
 simp only[List.length_map,List.length_range] at hlt
 rw[List.getElem?_map,List.getElem?_range hlt] at h
 exact⟨(Option.some.inj h).symm,hlt⟩
theorem Zy {n:Nat}:((List.range n).map λ(i:Nat)=>(i:Int)).length=n:=by simp
theorem GV {a:Bool}{b:Rs Bool}{c:Bool}(h:a=false->b= .ok c):orR (.ok a) b= .ok (a || c):=by
 cases a with
 |true=>rfl
 |false=>
  show(if false=true then Rs.ok true else b)=_
  rw[if_neg Bool.false_ne_true,h rfl];rfl
theorem sz {n:Nat}(h:n<=100000):n<=sizeLine:=Nat.le_trans h (by decide)
theorem VU {n:Nat}(h:n<=100000):n<sizeLine:=Nat.lt_of_le_of_lt h (by decide)
noncomputable def Ok (m:Rs β)(R:β->Prop):Prop:=∃ r,m= .ok r/\R r
theorem Ok.pure {R:β->Prop}{a:β}(h:R a):Ok (.ok a) R:=⟨a,rfl,h⟩
theorem Ok.bind {m:Rs α}{f:α->Rs β}{R:α->Prop}{T:β->Prop}(h:Ok m R)(hf:∀a,R a->Ok (f a) T):Ok (m.bind f) T:=by
 obtain⟨a,e,ha⟩:=h
 rw[e];exact hf a ha
theorem Ok.imp {m:Rs α}{R T:α->Prop}(h:Ok m R)(hf:∀a,R a->T a):Ok m T:=by
 obtain⟨a,e,ha⟩:=h
 exact⟨a,e,hf a ha⟩
theorem Ok.noE {m:Rs α}{R:α->Prop}(h:Ok m R):Ok (noE m) R:=by
 obtain⟨a,e,ha⟩:=h
 rw[e];exact⟨a,rfl,ha⟩
theorem Ok.chk {c:Prop}[Decidable c]{m:Rs α}{R:α->Prop}(hc:c)(h:Ok m R):Ok (chk c m) R:=by rw[Xj hc];exact h
theorem Ok.ite {b:Bool}{m n:Rs α}{R:α->Prop}(h1:b=true->Ok m R)(h2:b=false->Ok n R):Ok (if b=true then m else n) R:=by
 cases b with
 |true=>rw[if_pos rfl];exact h1 rfl
 |false=>rw[if_neg Bool.false_ne_true];exact h2 rfl
theorem Ok.forN {f:γ->α->Rs γ}(P:Nat->γ->Prop){as:List α}{g:γ}(h0:P 0 g)(hs:∀i a g,as[i]?=some a->P i g->Ok (f g a) (P (i+1))):Ok (forN as g f) (P as.length):=GP P h0 hs
theorem Ok.forC {f:γ->α->Rs (Ctl ρ γ)}(P:Nat->γ->Prop){as:List α}{g:γ}(h0:P 0 g)(hs:∀i a g,as[i]?=some a->P i g->∃g',f g a= .ok (.nx g')/\P (i+1) g'):Ok (forC as g f) (λc=>∃ g',c= .nx g'/\P as.length g'):=by
 obtain⟨g',e,h⟩:=BD P h0 hs
 exact⟨_,e,g',rfl,h⟩
theorem Gx {f:γ->Rs ρ}(g:γ):Vb f (.nx g)=f g:=(Eq.refl (f g)).symm.symm
theorem FE {δ:Type}{f:γ->Rs (Ctl ρ δ)}(g:γ):Q0 f (.nx g)=f g:=(Eq.refl (f g)).symm.symm
theorem YS (a:α):noE (Rs.ok a)= .ok a:=(Eq.refl (Rs.ok a)).symm.symm
theorem Ok.of {m:Rs α}{a:α}(h:m= .ok a):Ok m (λb=>b=a):=⟨a,h,rfl⟩
theorem Ok.eq {m:Rs α}{a:α}(h:Ok m (λb=>b=a)):m= .ok a:=by
 obtain⟨b,e,rfl⟩:=h
 exact e
end
end L2
namespace My
structure Col (n:Nat)(f:Nat->Nat->Nat):Prop where
 lt:∀a b,a<n->b<n->f a b<n
 r2:∀x y b,x<n->y<n->b<n->f x b=f y b->x=y
structure GoodF (n:Nat)(f:Nat->Nat->Nat):Prop extends Col n f where
 r1:∀a,a<n->f a a=a
 r3:∀a b c,a<n->b<n->c<n->f (f a b) c=f (f a c) (f b c)
theorem GoodF.congr {n:Nat}{f g:Nat->Nat->Nat}(h:GoodF n f)(e:∀a b,a<n->b<n->g a b=f a b):GoodF n g where
 lt a b ha hb:=by rw[e a b ha hb];exact h.lt a b ha hb
 r2 x y b hx hy hb q:=by rw[e x b hx hb,e y b hy hb] at q;exact h.r2 x y b hx hy hb q
 r1 a ha:=by rw[e a a ha ha];exact h.r1 a ha
 r3 a b c ha hb hc:=by
  rw[e a b ha hb,e a c ha hc,e b c hb hc,e _ c (h.lt a b ha hb) hc,e _ _ (h.lt a c ha hc) (h.lt b c hb hc)]
  exact h.r3 a b c ha hb hc
structure PermN (n:Nat)(p q:Nat->Nat):Prop where
 lt:∀a,a<n->p a<n
 qlt:∀a,a<n->q a<n
 pq:∀a,a<n->p (q a)=a
 qp:∀a,a<n->q (p a)=a
theorem PermN.good {n:Nat}{p q:Nat->Nat}{f:Nat->Nat->Nat}(h:PermN n p q)(g:GoodF n f):GoodF n (λx y=>p (f (q x) (q y))) where
 lt a b ha hb:=h.lt _ (g.lt _ _ (h.qlt a ha) (h.qlt b hb))
 r2 x y b hx hy hb e:=by
  have e1:q (p (f (q x) (q b)))=q (p (f (q y) (q b))):=congrArg q e
  rw[h.qp _ (g.lt _ _ (h.qlt x hx) (h.qlt b hb)),h.qp _ (g.lt _ _ (h.qlt y hy) (h.qlt b hb))] at e1
  have:=g.r2 _ _ _ (h.qlt x hx) (h.qlt y hy) (h.qlt b hb) e1
  rw[←h.pq x hx, ←h.pq y hy,this]
 r1 a ha:=by
  show p (f (q a) (q a))=a
  rw[g.r1 _ (h.qlt a ha),h.pq a ha]
 r3 a b c ha hb hc:=by
  have l1:=g.lt _ _ (h.qlt a ha) (h.qlt b hb)
  have l2:=g.lt _ _ (h.qlt a ha) (h.qlt c hc)
  have l3:=g.lt _ _ (h.qlt b hb) (h.qlt c hc)
  show p (f (q (p (f (q a) (q b)))) (q c))=p (f (q (p (f (q a) (q c)))) (q (p (f (q b) (q c)))))
  rw[h.qp _ l1,h.qp _ l2,h.qp _ l3,g.r3 _ _ _ (h.qlt a ha) (h.qlt b hb) (h.qlt c hc)]
end My
namespace My
open PySem L2
theorem FV {α:Type}{as:List α}{i:Nat}{a:α}(h:i<as.length):Vw as (i:Int) a= .ok (as.set i a):=by
 unfold Vw ixN
 rw[if_pos (by omega),if_pos (by omega)]
 simp
noncomputable def EC (n:Nat)(sp:List Int)(p q:Nat->Nat):Prop:=PermN n p q/\sp=(List.range n).map λi=>((p i:Nat):Int)
theorem EC.get {n:Nat}{sp:List Int}{p q:Nat->Nat}(h:EC n sp p q){i:Nat}(hi:i<n):atR sp (i:Int)= .ok ((p i:Nat):Int):=Vv (by rw[h.2,List.getElem?_map,List.getElem?_range hi];rfl)
theorem EA {as:List Int}{i:Nat}(h:i<as.length)(hl:as.length<=100000):Cl as (i:Int)= .ok (as[i],as.eraseIdx i):=by
 unfold Cl
 rw[Xj (by omega)]
 have e:seqIndex? (i:Int) as.length=some i:=by
  unfold seqIndex?
  have h0:¬((i:Int)<0):=by omega
  simp[h0,h]
 rw[e]
 simp[h]
theorem Vn:∀{as:List Int}{i:Nat} (h:i<as.length),(as[i]::as.eraseIdx i).Perm as
 |a::as,0,_=>by simp
 |a::as,i+1,h=>by
  have:=Vn (as:=as) (i:=i) (by simpa using h)
  simp only[List.getElem_cons_succ,List.eraseIdx_cons_succ]
  exact(List.Perm.swap _ _ _).trans (this.cons a)
end My
namespace My
theorem QY (names:List Int):(names.flatMap λx=>[x,-x]).length=2*names.length:=by
 induction names with
 |nil=>rfl
 |cons x r ih=>rw[List.flatMap_cons,List.length_append,ih];simp;omega
theorem QK {α:Type}:∀{l:List α}{k:Nat}{y:α},l[k]?=some y->(y::l.eraseIdx k).Perm l
 | [],_,_,e=>by simp at e
 |a::r,0,y,e=>by
  have e':a=y:=by simpa using e
  subst e';exact List.Perm.refl _
 |a::r,k+1,y,e=>by
  have e':r[k]?=some y:=by simpa using e
  show(y::a::r.eraseIdx k).Perm (a::r)
  exact(List.Perm.swap a y _).trans (List.Perm.cons a (QK e'))
theorem UY {α:Type}{l:List α}{k:Nat}{y:α}(e:l[k]?=some y):(l.eraseIdx k).length+1=l.length:=by
 have:=(QK e).length_eq
 simpa using this
theorem K7 {α:Type}:∀{ws:List (List α)}{j:Nat}{w:List α}{y:α},ws[j]?=some w->((ws.set j (w++[y])).flatten).Perm (y::ws.flatten)
 | [],_,_,_,e=>by simp at e
 |a::r,0,w,y,e=>by
  have e':a=w:=by simpa using e
  subst e'
  show((a++[y])++r.flatten).Perm (y::(a++r.flatten))
  rw[List.append_assoc]
  exact List.perm_middle
 |a::r,j+1,w,y,e=>by
  have e':r[j]?=some w:=by simpa using e
  show(a++(r.set j (w++[y])).flatten).Perm (y::(a++r.flatten))
  exact(List.Perm.append_left a (K7 e')).trans List.perm_middle
theorem Cv {α:Type}{ws:List (List α)}{j k:Nat}{w l:List α}{y:α}(e:ws[j]?=some w)(e3:l[k]?=some y):((ws.set j (w++[y])).flatten++l.eraseIdx k).Perm (ws.flatten++l):=by
 refine((K7 (y:=y) e).append_right _).trans ?_
 rw[List.cons_append]
 refine List.perm_middle.symm.trans ?_
 exact List.Perm.append_left _ (QK e3)
theorem mem_set {α:Type}:∀{l:List α}{j:Nat}{v x:α},x∈l.set j v->x∈l∨x=v
 | [],_,_,_,h=>by simp at h
 |a::r,0,v,x,h=>by
  rw[List.set_cons_zero] at h
  rcases List.mem_cons.mp h with h |h
  ·exact .inr h
  ·exact .inl (List.mem_cons_of_mem _ h)
 |a::r,j+1,v,x,h=>by
  rw[List.set_cons_succ] at h
  rcases List.mem_cons.mp h with h |h
  ·exact .inl (by rw[h];exact List.mem_cons_self)
  ·rcases mem_set h with h |h
   ·exact .inl (List.mem_cons_of_mem _ h)
   ·exact .inr h
theorem Kp:∀{l:List Bool}{j:Nat},l[j]?=some false->(l.set j true).count false+1=l.count false
 | [],_,e=>by simp at e
 |a::r,0,e=>by
  have e':a=false:=by simpa using e
  subst e';simp
 |a::r,j+1,e=>by
  have e':r[j]?=some false:=by simpa using e
  have ih:=Kp e'
  rw[List.set_cons_succ,List.count_cons,List.count_cons]
  omega
end My
namespace My
noncomputable def KL (r:Int×Int)(at':Int):List Int:=if at'=r.1 then[r.2] else if at'=r.1+1 then[-r.2] else[]
noncomputable def VL (r:Int×Int)(at':Int):Int:=if at'=r.1 then r.1+1 else if at'=r.1+1 then r.1 else at'
noncomputable def BO:List (Int×Int)->Int->Int
 | [],a=>a
 |r::rs,a=>BO rs (VL r a)
noncomputable def Ks:List (Int×Int)->Int->List Int
 | [],_=>[]
 |r::rs,a=>KL r a++Ks rs (VL r a)
theorem Do (rs:List (Int×Int))(r:Int×Int):∀a,BO (rs++[r]) a=VL r (BO rs a):=by
 induction rs with
 |nil=>intro a;rfl
 |cons q rs ih=>intro a;exact ih _
theorem FK (rs:List (Int×Int))(r:Int×Int):∀a,Ks (rs++[r]) a=Ks rs a++KL r (BO rs a):=by
 induction rs with
 |nil=>intro a;simp[Ks,BO]
 |cons q rs ih=>intro a;simp[Ks,BO,ih]
theorem KU {S:Int}{r:Int×Int}{a:Int}(h0:0<=r.1)(h1:r.1+1<S)(a0:0<=a)(a1:a<S):0<=VL r a/\VL r a<S:=by
 unfold VL
 split
 ·omega
 ·split<;> omega
noncomputable def Fk (S:Nat):List Int:=(List.range S).map λ(k:Nat)=>(k:Int)
theorem Z3 {S:Nat}{x:Int}:x∈Fk S↔0<=x/\x<(S:Int):=by
 unfold Fk
 rw[List.mem_map]
 constructor
 ·rintro⟨k,hk,rfl⟩
  have:=List.mem_range.mp hk
  omega
 ·rintro⟨h0,h1⟩
  exact⟨x.toNat,List.mem_range.mpr (by omega),by omega⟩
theorem ZC {α β:Type}{f:α->β}:∀{l:List α},(∀a b,a∈l->b∈l->f a=f b->a=b)->l.Nodup->(l.map f).Nodup
 | [],_,_=>List.nodup_nil
 |a::r,h,nd=>by
  rw[List.map_cons,List.nodup_cons]
  refine⟨λm=>?_,ZC (λx y hx hy=>h x y (List.mem_cons_of_mem _ hx) (List.mem_cons_of_mem _ hy)) (List.nodup_cons.mp nd).2⟩
  obtain⟨b,hb,e⟩:=List.mem_map.mp m
  have:=h b a (List.mem_cons_of_mem _ hb) List.mem_cons_self e
  exact(List.nodup_cons.mp nd).1 (by rw[←this];exact hb)
theorem Z1 (S:Nat):(Fk S).Nodup:=ZC (λa b _ _ e=>by omega) List.nodup_range
theorem QR {α:Type}[DecidableEq α]:∀{l m:List α},l.Nodup->m.Nodup->(∀x,x∈l↔x∈m)->l.Perm m
 | [],m,_,_,h=>by
  cases m with
  |nil=>exact List.Perm.refl _
  |cons a r=>exact absurd ((h a).mpr List.mem_cons_self) (by simp)
 |a::r,m,nl,nm,h=>by
  have ha:a∈m:=(h a).mp List.mem_cons_self
  have hp:m.Perm (a::m.erase a):=List.perm_cons_erase ha
  refine List.Perm.trans (List.Perm.cons a ?_) hp.symm
  have nd2:(a::m.erase a).Nodup:=hp.nodup_iff.mp nm
  refine QR (List.nodup_cons.mp nl).2 (List.nodup_cons.mp nd2).2 λx=>?_
  constructor
  ·intro hx
   have hxa:x≠a:=λe=>(List.nodup_cons.mp nl).1 (by rw[←e];exact hx)
   have:x∈a::m.erase a:=hp.mem_iff.mp ((h x).mp (List.mem_cons_of_mem _ hx))
   exact(List.mem_cons.mp this).resolve_left hxa
  ·intro hx
   have hxa:x≠a:=λe=>(List.nodup_cons.mp nd2).1 (e▸hx)
   have:x∈a::r:=(h x).mpr (hp.mem_iff.mpr (List.mem_cons_of_mem _ hx))
   exact(List.mem_cons.mp this).resolve_left hxa
theorem DQ {S:Nat}{r:Int×Int}(h0:0<=r.1)(h1:r.1+1<(S:Int)):((Fk S).map (VL r)).Perm (Fk S):=by
 refine QR (ZC (λa b _ _ e=>?_) (Z1 S)) (Z1 S) λx=>?_
 ·unfold VL at e
  split at e<;> split at e<;> (try split at e)<;> (try split at e)<;> omega
 ·rw[List.mem_map,Z3]
  constructor
  ·rintro⟨a,ha,rfl⟩
   have:=Z3.mp ha
   exact KU h0 h1 this.1 this.2
  ·rintro⟨x0,x1⟩
   refine⟨VL r x,Z3.mpr (KU h0 h1 x0 x1),?_⟩
   unfold VL
   split<;> (try split)<;> (try split)<;> omega
theorem Zr {α β:Type}(f:α->List β){l m:List α}(h:l.Perm m):(l.flatMap f).Perm (m.flatMap f):=by
 induction h with
 |nil=>exact List.Perm.refl _
 |cons x _ ih=>rw[List.flatMap_cons,List.flatMap_cons];exact List.Perm.append_left _ ih
 |swap x y l=>
  rw[List.flatMap_cons,List.flatMap_cons,List.flatMap_cons,List.flatMap_cons, ←List.append_assoc, ←List.append_assoc]
  exact List.Perm.append_right _ List.perm_append_comm
 |trans _ _ ih1 ih2=>exact ih1.trans ih2
theorem Jr {α β:Type}(f g:α->List β):∀l:List α,(l.flatMap λx=>f x++g x).Perm (l.flatMap f++l.flatMap g)
 | []=>List.Perm.refl _
 |a::r=>by
  rw[List.flatMap_cons,List.flatMap_cons,List.flatMap_cons]
  refine(List.Perm.append_left _ (Jr f g r)).trans ?_
  rw[List.append_assoc,List.append_assoc]
  refine List.Perm.append_left _ ?_
  rw[←List.append_assoc, ←List.append_assoc]
  exact List.Perm.append_right _ List.perm_append_comm
theorem flatMap_nil {α β:Type}(f:α->List β):∀{l:List α},(∀x∈l,f x=[])->l.flatMap f=[]
 | [],_=>rfl
 |a::r,h=>by rw[List.flatMap_cons,h a List.mem_cons_self,flatMap_nil f λx hx=>h x (List.mem_cons_of_mem _ hx)];rfl
theorem Bc {S:Nat}{r:Int×Int}(h0:0<=r.1)(h1:r.1+1<(S:Int)):((Fk S).flatMap (KL r)).Perm [r.2,-r.2]:=by
 have ha:r.1∈Fk S:=Z3.mpr ⟨h0,by omega⟩
 have hp:=List.perm_cons_erase ha
 have nd:=hp.nodup_iff.mp (Z1 S)
 have hb:r.1+1∈(Fk S).erase r.1:=by
  have:r.1+1∈r.1::(Fk S).erase r.1:=hp.mem_iff.mp (Z3.mpr ⟨by omega,h1⟩)
  exact(List.mem_cons.mp this).resolve_left (by omega)
 have hq:=List.perm_cons_erase hb
 have nd2:=hq.nodup_iff.mp (List.nodup_cons.mp nd).2
 refine(Zr _ (hp.trans (List.Perm.cons _ hq))).trans ?_
 rw[List.flatMap_cons,List.flatMap_cons,flatMap_nil]
 ·unfold KL
  rw[if_pos rfl,if_neg (by omega),if_pos rfl]
  exact List.Perm.refl _
 ·intro x hx
  have x2:x≠r.1+1:=λe=>(List.nodup_cons.mp nd2).1 (e▸hx)
  have x1:x≠r.1:=λe=>(List.nodup_cons.mp nd).1 (e▸hq.mem_iff.mpr (List.mem_cons_of_mem _ hx))
  unfold KL
  rw[if_neg x1,if_neg x2]
theorem Qh {α β γ:Type}(f:α->β)(g:β->List γ)(l:List α):(l.map f).flatMap g=l.flatMap λx=>g (f x):=by
 induction l with
 |nil=>rfl
 |cons a r ih=>rw[List.map_cons,List.flatMap_cons,List.flatMap_cons,ih]
theorem Gs {S:Nat}:∀{rs:List (Int×Int)},(∀r∈rs,0<=r.1/\r.1+1<(S:Int))->((Fk S).flatMap (Ks rs)).Perm (rs.flatMap λr=>[r.2,-r.2])
 | [],_=>by rw[flatMap_nil (Ks []) (λx _=>rfl)];exact List.Perm.refl _
 |r::rs,h=>by
  obtain⟨h0,h1⟩:=h r List.mem_cons_self
  rw[List.flatMap_cons]
  refine(Jr (KL r) (λa=>Ks rs (VL r a)) (Fk S)).trans ?_
  refine List.Perm.append (Bc h0 h1) ?_
  rw[←Qh (VL r) (Ks rs)]
  exact(Zr _ (DQ h0 h1)).trans (Gs λq hq=>h q (List.mem_cons_of_mem _ hq))
theorem ET {x s:Int}(h:s=1∨s= -1): [x*s,-(x*s)].Perm [x,-x]:=by
 rcases h with h |h
 ·subst h;simp
 ·subst h
  have e1:x* -1= -x:=by omega
  have e2: -(-x)=x:=by omega
  rw[e1,e2]
  exact List.Perm.swap _ _ _
theorem Qn {α β:Type}{f g:α->List β}:∀{l:List α},(∀x∈l,(f x).Perm (g x))->(l.flatMap f).Perm (l.flatMap g)
 | [],_=>List.Perm.refl _
 |a::r,h=>by
  rw[List.flatMap_cons,List.flatMap_cons]
  exact List.Perm.append (h a List.mem_cons_self) (Qn λx hx=>h x (List.mem_cons_of_mem _ hx))
end My
namespace My
theorem E9 {r:Int×Int}{a:Int}(h:a=r.1):KL r a=[r.2]:=by unfold KL;rw[if_pos h]
theorem Hj {r:Int×Int}{a:Int}(h:a=r.1+1):KL r a=[-r.2]:=by unfold KL;rw[if_neg (by omega),if_pos h]
theorem ER {r:Int×Int}{a:Int}(h:¬a=r.1)(h2:¬a=r.1+1):KL r a=[]:=by unfold KL;rw[if_neg h,if_neg h2]
theorem HW {r:Int×Int}{a:Int}(h:a=r.1):VL r a=r.1+1:=by unfold VL;rw[if_pos h]
theorem EF {r:Int×Int}{a:Int}(h:a=r.1+1):VL r a=r.1:=by unfold VL;rw[if_neg (by omega),if_pos h]
theorem HS {r:Int×Int}{a:Int}(h:¬a=r.1)(h2:¬a=r.1+1):VL r a=a:=by unfold VL;rw[if_neg h,if_neg h2]
structure Done (S:Int)(seen:List Bool)(ps:List Int):Prop where
 nd:ps.Nodup
 at':∀p∈ps,0<=p/\p<S/\seen[p.toNat]?=some true
 of:∀q:Nat,seen[q]?=some true->(q:Int)∈ps
theorem Done.none (S:Int)(n:Nat):Done S (List.replicate n false) []:=
 ⟨List.nodup_nil,λp h=>by simp at h,λq h=>by
  rw[List.getElem?_replicate] at h
  split at h<;> cases h⟩
theorem Uc {l:List Bool}{j q:Nat}(h:l[q]?=some true):(l.set j true)[q]?=some true:=by
 by_cases e:j=q
 ·subst e
  rw[List.getElem?_set_self (List.getElem?_eq_some_iff.mp h).1]
 ·rw[List.getElem?_set_ne e];exact h
theorem Done.snoc {S:Int}{seen:List Bool}{ps:List Int}{a:Int}(h:Done S seen ps)(a0:0<=a)(a1:a<S)(e:seen[a.toNat]?=some false):Done S (seen.set a.toNat true) (ps++[a]):=by
 have hl:a.toNat<seen.length:=(List.getElem?_eq_some_iff.mp e).1
 have hn:a∉ps:=λm=>by
  have:=(h.at' a m).2.2
  rw[e] at this;cases this
 refine⟨?_,λp hp=>?_,λq hq=>?_⟩
 ·rw[List.nodup_append]
  refine⟨h.nd,by simp,λx hx y hy=>?_⟩
  rw[List.mem_singleton.mp hy]
  exact λe=>hn (e▸hx)
 ·rcases List.mem_append.mp hp with hp |hp
  ·obtain⟨h1,h2,h3⟩:=h.at' p hp
   exact⟨h1,h2,Uc h3⟩
  ·rw[List.mem_singleton.mp hp]
   exact⟨a0,a1,by rw[List.getElem?_set_self hl]⟩
 ·by_cases hqa:a.toNat=q
  ·exact List.mem_append_right _ (List.mem_singleton.mpr (by omega))
  ·rw[List.getElem?_set_ne hqa] at hq
   exact List.mem_append_left _ (h.of q hq)
theorem Done.all {S:Int}{seen:List Bool}{ps:List Int}(h:Done S seen ps)(hl:seen.length=S.toNat)(h0:0<=S)(ha:∀q:Nat,q<S.toNat->seen[q]?=some true):ps.Perm (Fk S.toNat):=by
 refine QR h.nd (Z1 _) λx=>?_
 rw[Z3]
 constructor
 ·intro hx
  obtain⟨h1,h2,_⟩:=h.at' x hx
  omega
 ·rintro⟨x0,x1⟩
  have:=h.of x.toNat (ha x.toNat (by omega))
  rw[show((x.toNat:Nat):Int)=x by omega] at this
  exact this
theorem GE {seen:List Bool}{i:Nat}(h:∀q:Nat,q<i->seen[q]?=some true)(hi:seen[i]?=some true):∀q:Nat,q<i+1->seen[q]?=some true:=λq hq=>by
 by_cases e:q=i
 ·subst e;exact hi
 ·exact h q (by omega)
end My
namespace My
open PySem L2
theorem FI (ns:List Int){p:Int}(hp:0<=p):∃c,JF ns p= .ok c:=by
 unfold JF
 simp only[Rs.okb]
 by_cases h:p<(ns.length:Int)
 ·rw[decide_eq_true h,if_pos rfl]
  have hl:p.toNat<ns.length:=by omega
  exact⟨ns[p.toNat],Lu hp (by simp[hl])⟩
 ·rw[decide_eq_false h,if_neg Bool.false_ne_true]
  obtain⟨g,e,_⟩:=GP (as:=LH ns none (some 63)) (g:=(5:Int)) (f:=λg15 a17=>(Rs.bind (Rs.bind (Rs.bind (Rs.bind (JA g15 48271) λx25=>(Rs.bind (V4 a17 1000003) λx26=>(Rs.ok (x25+x26)))) λx27=>Rs.ok (x27+1)) λx29=>V4 x29 2147483647) λa19=>(Rs.ok (a19)))) (λ_ _=>True) True.intro λi a g _ _=>by
   rw[Jx (by decide) (by decide),Rs.ok_bind,Zn (by decide),Rs.ok_bind,Rs.ok_bind,Rs.ok_bind,Zn (by decide),Rs.ok_bind]
   exact⟨_,rfl,True.intro⟩
  rw[e,Rs.ok_bind,Ze (by decide) (by decide),Rs.ok_bind,Rs.ok_bind,Zn (by decide)]
  exact⟨_,rfl⟩
theorem B5 (c:Int){k:Int}(h0:0<=k)(h1:k<=100000):∃y,KZ c k= .ok y/\0<=y:=by
 unfold KZ
 simp only[Rs.okb]
 have hm:0<=c % 2147483629/\c % 2147483629<2147483629:=⟨Int.emod_nonneg _ (by decide),Int.emod_lt_of_pos _ (by decide)⟩
 rw[Zn (by decide),Rs.ok_bind,Ze (by decide) (by decide),Rs.ok_bind,Rs.ok_bind,Rs.ok_bind,Vk (by decide) (by decide) (by omega) (by omega),Rs.ok_bind,Zn (by decide),Rs.ok_bind]
 rw[Jx (by decide) (by decide),Rs.ok_bind,Ze (by decide) (by decide),Rs.ok_bind,Jx (by omega) (by omega),Rs.ok_bind,Rs.ok_bind,Rs.ok_bind,Zn (by decide),Rs.ok_bind,Ek (by decide) (by decide)]
 exact⟨_,rfl,Int.ediv_nonneg (Int.emod_nonneg _ (by decide)) (by decide)⟩
theorem Ej (ns:List Int){p:Int}(hp:0<=p)(sizes:List Int)(hl:sizes.length<=100000)(hs:∀x∈sizes,0<x/\x<2^250):
  Ok (Kh ns p sizes) λr=>r.length=sizes.length/\∀(i:Nat) x s,r[i]?=some x->sizes[i]?=some s->0<=x/\x<s:=by
 obtain⟨c,ec⟩:=FI ns hp
 unfold Kh
 simp only[Rs.okb]
 rw[ec,show noE (Rs.ok c)= .ok c from rfl,Rs.ok_bind,JM (by omega),Rs.ok_bind,Vk (by decide) (by decide) (by decide) (by decide)]
 simp only[Rs.okb]
 have key:∀(i:Nat) (a:Int) (g:List Int×Int),((List.range sizes.length).map λ(i:Nat)=>(i:Int))[i]?=some a->(g.1.length=i/\∀(j:Nat) x s,g.1[j]?=some x->sizes[j]?=some s->0<=x/\x<s)->∀y z:Int,∀s,sizes[i]?=some s->0<=y/\y<s->((g.1++[y],z).1.length=i+1/\∀(j:Nat) x s,(g.1++[y],z).1[j]?=some x->sizes[j]?=some s->0<=x/\x<s):=by
  intro i a g ha ⟨hg,hq⟩ y z s hs1 hy
  refine⟨by simp[hg],λj x s' hx hs'=>?_⟩
  have hx:(g.1++[y])[j]?=some x:=hx
  rcases Nat.lt_trichotomy j i with hj |hj |hj
  ·rw[List.getElem?_append_left (by omega)] at hx;exact hq j x s' hx hs'
  ·subst hj
   rw[List.getElem?_append_right (by omega),hg,Nat.sub_self] at hx
   have:y=x:=by simpa using hx
   rw[hs1] at hs'
   cases hs'
   rw[←this];exact hy
  ·rw[List.getElem?_eq_none (by simp;omega)] at hx;cases hx
 refine Ok.bind (Ok.forN (λi (g:List Int×Int)=>g.1.length=i/\∀(j:Nat) x s,g.1[j]?=some x->sizes[j]?=some s->0<=x/\x<s) ⟨rfl,λj x s h _=>by simp at h⟩ λi a g ha hg=>?_) (T:=λ(r:List Int)=>r.length=sizes.length/\∀(i:Nat) x s,r[i]?=some x->sizes[i]?=some s->0<=x/\x<s) λg ⟨hg,hq⟩=>?_
 ·obtain⟨rfl,hi⟩:=Zz ha
  have hsz:sizes[i]?=some sizes[i]:=by simp[hi]
  have hsp:=hs _ (List.getElem_mem hi)
  have hgl:g.1.length<sizeLine:=VU (by have:=hg.1;omega)
  by_cases hc:c<10^(18:Int).toNat
  ·rw[decide_eq_true hc,if_pos rfl]
   obtain⟨y,ey,hy⟩:=B5 c (k:=(i:Int)) (by omega) (by omega)
   rw[ey,show noE (Rs.ok y)= .ok y from rfl,Rs.ok_bind,Vv hsz,Rs.ok_bind,Zn hsp.1,Rs.ok_bind,Xj hgl]
   exact⟨_,rfl,key i _ g ha hg _ _ _ hsz ⟨Int.emod_nonneg _ (by omega),Int.emod_lt_of_pos _ hsp.1⟩⟩
  ·rw[decide_eq_false hc,if_neg Bool.false_ne_true]
   by_cases hq:0<g.2
   ·rw[decide_eq_true hq,if_pos rfl,Vv hsz,Rs.ok_bind,Zn hsp.1,Rs.ok_bind,Xj hgl]
    simp only[Rs.okb]
    rw[Ek hsp.1 hsp.2]
    exact⟨_,rfl,key i _ g ha hg _ _ _ hsz ⟨Int.emod_nonneg _ (by omega),Int.emod_lt_of_pos _ hsp.1⟩⟩
   ·rw[decide_eq_false hq,if_neg Bool.false_ne_true,Zn (by decide),Rs.ok_bind]
    obtain⟨c2,ec2⟩:=FI ns (p:=(p+1+(i:Int)) % 63) (Int.emod_nonneg _ (by decide))
    obtain⟨y,ey,hy⟩:=B5 c2 (k:=(i:Int)) (by omega) (by omega)
    rw[ec2,show noE (Rs.ok c2)= .ok c2 from rfl,Rs.ok_bind,ey,show noE (Rs.ok y)= .ok y from rfl,Rs.ok_bind,Vv hsz,Rs.ok_bind,Zn hsp.1,Rs.ok_bind,Xj hgl]
    exact⟨_,rfl,key i _ g ha hg _ _ _ hsz ⟨Int.emod_nonneg _ (by omega),Int.emod_lt_of_pos _ hsp.1⟩⟩
 ·rw[Zy] at hg
  exact⟨g.1,rfl,hg,hq⟩
theorem Y6 {α:Type}{r:List α}{k:Int}{n:Nat}(e:k=(n:Int))(h:n<r.length):atR r k= .ok r[n]:=by
 subst e;exact Vv (by simp[h])
theorem Gp {γ:Type}{c:γ->Rs Bool}{f:γ->Rs γ}(P:γ->Prop)(μ:γ->Nat)(hs:∀g,P g->∃b,c g= .ok b/\(b=true->Ok (f g) λg'=>P g'/\μ g'<μ g)):∀(n:Nat) (g:γ),P g->μ g<n->Ok (Jl n g c f) λg'=>P g'/\c g'= .ok false
 |0,_,_,h=>by omega
 |n+1,g,hp,hm=>by
  obtain⟨b,hb,h⟩:=hs g hp
  show Ok ((c g).bind _) _
  rw[hb,Rs.okb]
  cases b with
  |false=>rw[if_neg Bool.false_ne_true];exact⟨g,rfl,hp,hb⟩
  |true=>
   rw[if_pos rfl]
   exact Ok.bind (h rfl) λg' h'=>Gp P μ hs n g' h'.1 (by omega)
theorem CV {ns r:List Int}(hl:ns.length<=100)(hr:8*ns.length+3<=r.length):Ok (QU ns r) λl=>l.Perm ns:=by
 unfold QU
 simp only[Rs.okb]
 rw[JM (by omega)]
 simp only[Rs.okb]
 refine Ok.bind (Ok.forN (λi (g:List Int×List Int)=>g.1.length=i/\(g.1++g.2).Perm ns) ⟨rfl,List.Perm.refl _⟩ λi a g ha hg=>?_) λg hg=>?_
 ·obtain⟨rfl,hi⟩:=Zz ha
  obtain⟨h1,h2⟩:=hg
  have hl:=h2.length_eq
  simp only[List.length_append] at hl
  rw[Ze (by decide) (by decide)]
  simp only[Rs.okb]
  rw[Y6 (r:=r) (n:=8*i+9) (by omega) (by omega)]
  simp only[Rs.okb]
  have hpos:(0:Int)<(g.2.length:Int):=by omega
  generalize r[8*i+9]=y
  have hm1:=Int.emod_nonneg y (show(g.2.length:Int)≠0 by omega)
  have hm2:=Int.emod_lt_of_pos y hpos
  rw[Zn hpos,Rs.okb]
  generalize hk:y % (g.2.length:Int)=k at hm1 hm2
  obtain⟨j,rfl⟩:∃j:Nat,k=j:=⟨k.toNat,by omega⟩
  have hj:j<g.2.length:=by omega
  rw[EA hj (by omega),Rs.okb,Xj (VU (by omega))]
  refine⟨_,rfl,by simp[h1],?_⟩
  refine List.Perm.trans ?_ h2
  show((g.1++[g.2[j]])++g.2.eraseIdx j).Perm (g.1++g.2)
  rw[List.append_assoc]
  exact(Vn hj).append_left _
 ·obtain⟨h1,h2⟩:=hg
  rw[Zy] at h1
  have hl:=h2.length_eq
  simp only[List.length_append] at hl
  have:g.2=[]:=List.length_eq_zero_iff.mp (by omega)
  rw[this,List.append_nil] at h2
  exact⟨_,rfl,h2⟩
theorem IN {ns r:List Int}{rings:Nat}(hl:ns.length<=100)(hr:8*ns.length+3<=r.length)(hg:ns≠ []->1<=rings)(hg2:rings<=100):Ok (Ff ns r (rings:Int)) λws=>ws.length=rings/\ws.flatten.Perm (ns.flatMap λx=>[x,-x]):=by
 unfold Ff
 simp only[Rs.okb]
 refine Ok.bind (Ok.forN (λi (g:List Int)=>g=(ns.take i).flatMap λx=>[x,-x]) rfl λi a g ha hg=>?_) λg hgg=>?_
 ·have hi:=(List.getElem?_eq_some_iff.mp ha).1
  subst hg
  rw[Xj (show[a,-a].length<=sizeLine from sz (by simp)),Rs.okb,Xj (sz (by rw[QY];simp;omega))]
  refine⟨_,rfl,?_⟩
  rw[List.take_add_one,ha]
  simp
 rw[List.take_length] at hgg
 subst hgg
 rw[JM (by omega)]
 simp only[Rs.okb]
 rw[Qc (h:=λ_=>([]:List Int)) (sz (by simp;omega)) λ_ _=>rfl]
 simp only[Rs.okb]
 rw[Ze (by decide) (by decide),Rs.okb,show(2:Int)*(ns.length:Int)=((2*ns.length:Nat):Int) by omega,JM (by omega)]
 simp only[Rs.okb]
 refine Ok.bind (Ok.forN (λi (g:List Int×List (List Int))=>g.2.length=rings/\g.1.length+i=2*ns.length/\(∀w∈g.2,w.length<=i)/\(g.2.flatten++g.1).Perm (ns.flatMap λx=>[x,-x])) ⟨by simp,by rw[QY];rfl,λw hw=>?_,?_⟩ λi a g ha hg=>?_) λg hg=>?_
 ·obtain⟨_,_,rfl⟩:=List.mem_map.mp hw
  exact Nat.zero_le _
 ·have:∀l:List Int,(l.map λ_=>([]:List Int)).flatten=[]:=λl=>by simp
  rw[this];exact List.Perm.refl _
 ·obtain⟨rfl,hi⟩:=Zz ha
  obtain⟨h1,h2,h3,h4⟩:=hg
  have hne:1<=rings:=by
   refine ‹ns≠ []->1<=rings› λe=>?_
   rw[e] at hi;simp at hi
  rw[Ze (by decide) (by decide)]
  simp only[Rs.okb]
  rw[Y6 (r:=r) (n:=4*i+5) (by omega) (by omega)]
  simp only[Rs.okb]
  have hpos:(0:Int)<(g.1.length:Int):=by omega
  generalize r[4*i+5]=y
  have hm1:=Int.emod_nonneg y (show(g.1.length:Int)≠0 by omega)
  have hm2:=Int.emod_lt_of_pos y hpos
  rw[Zn hpos,Rs.okb]
  generalize hk:y % (g.1.length:Int)=k at hm1 hm2
  obtain⟨j,rfl⟩:∃j:Nat,k=j:=⟨k.toNat,by omega⟩
  have hj:j<g.1.length:=by omega
  rw[EA hj (by omega),Rs.okb]
  simp only[Rs.okb]
  rw[Y6 (r:=r) (n:=4*i+6) (by omega) (by omega)]
  simp only[Rs.okb]
  generalize r[4*i+6]=y2
  have hp2:(0:Int)<(rings:Int):=by omega
  have hn1:=Int.emod_nonneg y2 (show(rings:Int)≠0 by omega)
  have hn2:=Int.emod_lt_of_pos y2 hp2
  rw[Zn hp2,Rs.okb]
  generalize hk2:y2 % (rings:Int)=k2 at hn1 hn2
  obtain⟨q,rfl⟩:∃q:Nat,k2=q:=⟨k2.toNat,by omega⟩
  have hq:q<g.2.length:=by omega
  have hw:=h3 g.2[q] (List.getElem_mem hq)
  rw[Y6 (n:=q) rfl hq,Rs.okb,Xj (VU (by omega)),FV hq,Rs.okb]
  have hjs:g.1[j]?=some g.1[j]:=by simp[hj]
  have hqs:g.2[q]?=some g.2[q]:=by simp[hq]
  refine⟨_,rfl,by simp[h1],?_,λw hw'=>?_,(Cv hqs hjs).trans h4⟩
  ·have:=UY hjs
   show(g.1.eraseIdx j).length+(i+1)=_
   omega
  ·rcases mem_set hw' with h |h
   ·have:=h3 w h;omega
   ·rw[h];simp;omega
 ·obtain⟨h1,h2,h3,h4⟩:=hg
  rw[Zy] at h2
  have:g.1=[]:=List.length_eq_zero_iff.mp (by omega)
  rw[this,List.append_nil] at h4
  exact⟨_,rfl,h1,h4⟩
noncomputable def JO (ns r:List Int)(sg:Int->Int)(S:Int):List (Int×Int):=(List.range ns.length).map λk=>(r.getD (8*k+10) 0 % (S-1),ns.getD k 0*sg (ns.getD k 0))
theorem G4 {ns r:List Int}{sg:Int->Int}{S:Int}{k:Nat}(h:k<ns.length)(h2:8*k+10<r.length):(JO ns r sg S)[k]?=some (r[8*k+10] % (S-1),ns[k]*sg ns[k]):=by
 unfold JO
 rw[List.getElem?_map,List.getElem?_range h]
 simp[h,h2]
theorem Fc {ns r:List Int}{d:List (Int×Int)}{sg:Int->Int}{S:Nat}(hl:ns.length<=100)(hr:8*ns.length+3<=r.length)(hd:∀x∈ns,XS d x=some (sg x))(hs:∀x∈ns,sg x=1∨sg x= -1)(h2:2<=S)(h4:S<=100):Ok (Zx ns d r (S:Int)) λws=>ws.length<=S/\ws.flatten.Perm (ns.flatMap λx=>[x,-x]):=by
 have hrs:∀q∈JO ns r sg (S:Int),0<=q.1/\q.1+1<(S:Int):=λq hq=>by
  obtain⟨k,_,rfl⟩:=List.mem_map.mp hq
  have hp:(0:Int)<(S:Int)-1:=by omega
  have hm1:=Int.emod_nonneg (r.getD (8*k+10) 0) (show((S:Int)-1)≠0 by omega)
  have hm2:=Int.emod_lt_of_pos (r.getD (8*k+10) 0) hp
  show 0<=_ % _/\_ % _+1<_
  omega
 have hrl:(JO ns r sg (S:Int)).length=ns.length:=by simp[JO]
 have hin:∀(rs:List (Int×Int)),(∀q∈rs,0<=q.1/\q.1+1<(S:Int))->∀a:Int,0<=a->a<(S:Int)->0<=BO rs a/\BO rs a<(S:Int):=by
  intro rs
  induction rs with
  |nil=>intro _ a h0 h1;exact⟨h0,h1⟩
  |cons q rs ih=>
   intro hq a h0 h1
   have h:=KU (hq q (by simp)).1 (hq q (by simp)).2 h0 h1
   exact ih (λx hx=>hq x (by simp[hx])) _ h.1 h.2
 have hcl:∀(rs:List (Int×Int)) (a:Int),(Ks rs a).length<=rs.length:=by
  intro rs
  induction rs with
  |nil=>intro a;exact Nat.le_refl _
  |cons q rs ih=>
   intro a
   show(KL q a++Ks rs (VL q a)).length<=_
   have h1:(KL q a).length<=1:=by
    unfold KL
    split
    ·simp
    ·split<;> simp
   have:=ih (VL q a)
   simp only[List.length_append,List.length_cons]
   omega
 unfold Zx
 simp only[Rs.okb]
 rw[Xj (show[false].length<=sizeLine from sz (by simp)),Rs.okb,show HG [false] (S:Int)= .ok (List.replicate S false) from ?_]
 rotate_left
 ·unfold HG
  rw[Xj ⟨by omega,by omega,sz (by simp;omega)⟩,Int.toNat_natCast]
  congr 1
  clear h2 h4 hrs hin hrl
  induction S with
  |zero=>rfl
  |succ n ih=>rw[List.replicate_succ,List.flatten_cons,ih,List.replicate_succ];rfl
 rw[Rs.okb,JM (by omega),Rs.okb]
 generalize hR:JO ns r sg (S:Int)=rs at hrs hrl
 refine Ok.bind (Ok.forN (λi (g:List Bool×List (List Int))=>g.1.length=S/\g.2.length<=i/\(∀q:Nat,q<i->g.1[q]?=some true)/\∃ps,Done (S:Int) g.1 ps/\g.2.flatten=ps.flatMap (Ks rs)) ⟨by simp,Nat.le_refl _,λq hq=>by omega,[],Done.none _ _,rfl⟩ λi a g ha hg=>?_) λg hg=>?_
 ·obtain⟨rfl,hi⟩:=Zz ha
  obtain⟨g1,g2,g3,ps,g4,g5⟩:=hg
  have hi1:i<g.1.length:=by omega
  rw[Y6 (n:=i) rfl hi1]
  simp only[Rs.okb]
  cases hb:g.1[i] with
  |true=>
   rw[show(!true)=false from rfl,if_neg Bool.false_ne_true]
   simp only[Rs.okb]
   exact⟨_,rfl,g1,by show g.2.length<=_;omega,GE g3 (by simp[hi1,hb]),ps,g4,g5⟩
  |false=>
   rw[show(!false)=true from rfl,if_pos rfl]
   refine Ok.bind (R:=λg':List Bool×List (List Int)=>g'.1.length=S/\g'.2.length<=i+1/\(∀q:Nat,q<i+1->g'.1[q]?=some true)/\∃ps,Done (S:Int) g'.1 ps/\g'.2.flatten=ps.flatMap (Ks rs)) (Ok.bind (Gp (λg':List Bool×Int×List Int=>g'.1.length=S/\0<=g'.2.1/\g'.2.1<(S:Int)/\(∀q:Nat,g.1[q]?=some true->g'.1[q]?=some true)/\((g'.2.1=(i:Int)/\g'.1[i]?=some false)∨g'.1[i]?=some true)/\g'.2.2.length+100*g'.1.count false<=100*S/\∃qs,Done (S:Int) g'.1 (ps++qs)/\g'.2.2=qs.flatMap (Ks rs)) (λg'=>g'.1.count false) (λg' hg'=>?_) _ (g.1,(i:Int),[]) ⟨g1,by show(0:Int)<=(i:Int);omega,by show(i:Int)<(S:Int);omega,λq h=>h, .inl ⟨rfl,by simp[hi1,hb]⟩,by
    have:g.1.count false<=g.1.length:=List.count_le_length
    show 0+100*g.1.count false<=100*S
    omega,[],by rw[List.append_nil];exact g4,rfl⟩ ?_) λg' hg'=>?_) λg' hg'=>?_
   ·obtain⟨w1,w2,w3,w4,w5,w8,qs,w6,w7⟩:=hg'
    obtain⟨p,hp⟩:∃p:Nat,g'.2.1=(p:Int):=⟨g'.2.1.toNat,by omega⟩
    have hpl:p<g'.1.length:=by omega
    rw[Y6 hp hpl]
    refine⟨_,rfl,λhf=>?_⟩
    have hf':g'.1[p]=false:=by simpa using hf
    have hfs:g'.1[p]?=some false:=by simp[hpl,hf']
    rw[hp,FV hpl]
    simp only[Rs.okb]
    rw[JM (by omega)]
    simp only[Rs.okb]
    refine Ok.bind (Ok.forN (λk (h:Int×List Int)=>h.1=BO (rs.take k) (p:Int)/\h.2=g'.2.2++Ks (rs.take k) (p:Int)) ⟨rfl,by rw[List.take_zero];exact(List.append_nil _).symm⟩ λk b h hb' hh=>?_) λh hh=>?_
    ·obtain⟨rfl,hk⟩:=Zz hb'
     obtain⟨e1,e2⟩:=hh
     have hq:=G4 (sg:=sg) (S:=(S:Int)) hk (show 8*k+10<r.length by omega)
     rw[hR] at hq
     have hts:rs.take (k+1)=rs.take k++[(r[8*k+10] % ((S:Int)-1),ns[k]*sg ns[k])]:=by rw[List.take_add_one,hq];rfl
     rw[hts,Do,FK, ←e1]
     rw[Ze (by decide) (by decide)]
     simp only[Rs.okb]
     rw[Y6 (r:=r) (n:=8*k+10) (by omega) (by omega)]
     simp only[Rs.okb]
     rw[Zn (by omega)]
     simp only[Rs.okb]
     rw[Y6 (r:=ns) (n:=k) rfl hk]
     simp only[Rs.okb]
     have hgd:ZS d ns[k]= .ok (sg ns[k]):=by unfold ZS;rw[hd _ (List.getElem_mem hk)];rfl
     have hsg:=hs _ (List.getElem_mem hk)
     rw[hgd]
     simp only[Rs.okb]
     rw[Jx (a:=ns[k]) (by omega) (by omega),Jx (a:=-ns[k]) (by omega) (by omega)]
     simp only[Rs.okb]
     have hlen:h.2.length<sizeLine:=VU (by
      have:=hcl (rs.take k) (p:Int)
      rw[List.length_take] at this
      rw[e2,List.length_append];omega)
     rw[Xj hlen,Xj hlen]
     generalize r[8*k+10] % ((S:Int)-1)=low
     by_cases c1:h.1=low
     ·rw[if_pos (decide_eq_true c1)]
      simp only[Rs.okb]
      refine⟨_,rfl,?_,?_⟩
      ·rw[HW c1]
      ·rw[E9 c1,e2,List.append_assoc]
     ·rw[if_neg (by rw[decide_eq_false c1];exact Bool.false_ne_true)]
      by_cases c2:h.1=low+1
      ·rw[if_pos (decide_eq_true c2)]
       simp only[Rs.okb]
       refine⟨_,rfl,?_,?_⟩
       ·rw[EF c2]
       ·rw[Hj c2,e2,List.append_assoc,Int.neg_mul]
      ·rw[if_neg (by rw[decide_eq_false c2];exact Bool.false_ne_true)]
       simp only[Rs.okb]
       refine⟨_,rfl,?_,?_⟩
       ·rw[HS c1 c2]
       ·rw[ER c1 c2,List.append_nil,e2]
    ·rw[Zy, ←hrl,List.take_length] at hh
     obtain⟨e1,e2⟩:=hh
     have hpr:=hin rs hrs (p:Int) (by omega) (by omega)
     have hct:=Kp hfs
     have hcl':=hcl rs (p:Int)
     refine⟨_,rfl,⟨?_,?_,?_,?_,?_,?_,qs++[(p:Int)],?_,?_⟩,?_⟩
     ·show(g'.1.set p true).length=S
      rw[List.length_set];exact w1
     ·show 0<=h.1
      rw[e1];exact hpr.1
     ·show h.1<_
      rw[e1];exact hpr.2
     ·exact λq hq=>Uc (w4 q hq)
     ·refine .inr ?_
      show(g'.1.set p true)[i]?=some true
      rcases w5 with⟨h1,_⟩ |h1
      ·have:p=i:=by omega
       subst this
       rw[List.getElem?_set_self hpl]
      ·exact Uc h1
     ·show h.2.length+100*(g'.1.set p true).count false<=100*S
      rw[e2,List.length_append];omega
     ·rw[←List.append_assoc]
      have:=w6.snoc (a:=(p:Int)) (by omega) (by omega) (by rw[Int.toNat_natCast];exact hfs)
      rwa [Int.toNat_natCast] at this
     ·show h.2=_
      rw[e2,w7,List.flatMap_append]
      simp
     ·show(g'.1.set p true).count false<g'.1.count false
      omega
   ·have:g.1.count false<=g.1.length:=List.count_le_length
    show g.1.count false<(S:Int).natAbs+2
    omega
   ·obtain⟨⟨w1,w2,w3,w4,w5,w8,qs,w6,w7⟩,hc⟩:=hg'
    obtain⟨p,hp⟩:∃p:Nat,g'.2.1=(p:Int):=⟨g'.2.1.toNat,by omega⟩
    have hpl:p<g'.1.length:=by omega
    rw[Y6 hp hpl,Rs.okb] at hc
    have hc':g'.1[p]=true:=by
     have:=Rs.ok.inj hc
     simpa using this
    have h5:g'.1[i]?=some true:=by
     rcases w5 with⟨h1,h6⟩ |h1
     ·have:p=i:=by omega
      subst this
      rw[List.getElem?_eq_getElem hpl,hc'] at h6
      cases h6
     ·exact h1
    rw[Xj (VU (by omega))]
    refine⟨_,rfl,w1,?_,?_,ps++qs,w6,?_⟩
    ·show(g.2++[g'.2.2]).length<=_
     simp;omega
    ·exact GE (λq hq=>w4 q (g3 q hq)) h5
    ·show(g.2++[g'.2.2]).flatten=_
     rw[List.flatten_append,g5,List.flatMap_append,w7]
     simp
   ·exact⟨_,rfl,hg'⟩
 ·obtain⟨g1,g2,g3,ps,g4,g5⟩:=hg
  rw[Zy] at g2 g3
  refine⟨_,rfl,g2,?_⟩
  rw[g5]
  refine(Zr _ (g4.all (by rw[g1];rfl) (by omega) λq hq=>g3 q (by omega))).trans ?_
  rw[Int.toNat_natCast]
  refine(Gs hrs).trans ?_
  rw[←hR]
  unfold JO
  rw[Qh]
  have e:ns.flatMap (λx=>[x,-x])=(List.range ns.length).flatMap λk=>[ns.getD k 0,-(ns.getD k 0)]:=by
   have h:ns=(List.range ns.length).map λk=>ns.getD k 0:=List.ext_getElem (by simp) λj h1 h2=>by simp[h1]
   conv=>lhs;rw[h]
   rw[Qh]
  rw[e]
  refine Qn λk hk=>ET (hs _ ?_)
  have hk':=List.mem_range.mp hk
  simp[hk']
theorem DN {α:Type}{l:List α}{m c:Nat}(hm:l.length=m)(hc:c<m):∀{n j:Nat},j<n->(List.replicate n l).flatten[m*j+c]?=l[c]?
 |0,_,h=>by omega
 |n+1,0,_=>by
  rw[List.replicate_succ,List.flatten_cons,Nat.mul_zero,Nat.zero_add,List.getElem?_append_left (by omega)]
 |n+1,j+1,h=>by
  rw[List.replicate_succ,List.flatten_cons,List.getElem?_append_right (by rw[hm,Nat.mul_succ];omega),hm,show m*(j+1)+c-m=m*j+c by rw[Nat.mul_succ];omega]
  exact DN hm hc (by omega)
theorem FZ {α:Type}(l:List α):∀n:Nat,(List.replicate n l).flatten.length=n*l.length
 |0=>by simp
 |n+1=>by rw[List.replicate_succ,List.flatten_cons,List.length_append,FZ l n,Nat.succ_mul];omega
structure Drawn (most:Nat)(D:List (List Int)×List (Int×Int)):Prop where
 le:D.2.length<=most
 inc:(D.2.map Prod.fst).Pairwise (· < ·)
 pos:∀e∈D.2,1<=e.1/\e.1<2^50/\(e.2=1∨e.2= -1)
 perm:D.1.flatten.Perm ((D.2.map Prod.fst).flatMap λx=>[x,-x])
 few:D.1.length<=5
theorem Kz:∀{d:List (Int×Int)}{x:Int},x∈d.map Prod.fst->∃v,XS d x=some v/\(x,v)∈d
 | [],_,h=>by simp at h
 |kv::d,x,h=>by
  by_cases c:kv.1=x
  ·exact⟨kv.2,by simp[XS,List.find?_cons,c],by rw[←c];simp⟩
  ·have hx:x∈d.map Prod.fst:=by
    rw[List.map_cons,List.mem_cons] at h
    rcases h with h |h
    ·exact absurd h.symm c
    ·exact h
   obtain⟨v,h1,h2⟩:=Kz hx
   exact⟨v,by unfold XS at h1⊢;rw[List.find?_cons,decide_eq_false c];exact h1,List.mem_cons_of_mem _ h2⟩
theorem Bf {d:List (Int×Int)}{k v:Int}(h:∀x∈d.map Prod.fst,x≠k):Zg d k v=d++[(k,v)]:=by
 unfold Zg
 rw[if_neg]
 rw[List.any_eq_true]
 rintro⟨kv,h1,h2⟩
 exact h kv.1 (List.mem_map.mpr ⟨kv,h1,rfl⟩) (by simpa using h2)
theorem BW (ns:List Int){p:Int}(hp:0<=p){most:Nat}(hm:most<=100):Ok (QW ns p (most:Int)) (Drawn most):=by
 unfold QW
 simp only[Rs.okb]
 rw[Xj (sz (by simp))]
 simp only[Rs.okb]
 rw[Xj (sz (by simp))]
 simp only[Rs.okb]
 rw[Ze (by decide) (by decide),Rs.okb,show(2:Int)*(most:Int)=((2*most:Nat):Int) by omega]
 rw[show HG [(80:Int),5,2,3] ((2*most:Nat):Int)= .ok (List.replicate (2*most) [(80:Int),5,2,3]).flatten from by
  unfold HG
  rw[Xj ⟨by omega,by omega,sz (by simp;omega)⟩,Int.toNat_natCast]]
 simp only[Rs.okb]
 have hrl:=FZ [(80:Int),5,2,3] (2*most)
 have hrg:∀{j c:Nat},c<4->j<2*most->(List.replicate (2*most) [(80:Int),5,2,3]).flatten[4*j+c]?=[(80:Int),5,2,3][c]?:=fun {j c} hc hj=>DN rfl hc hj
 have hrm:∀x∈(List.replicate (2*most) [(80:Int),5,2,3]).flatten,0<x/\x<2^250:=λx hx=>by
  obtain⟨l,h1,h2⟩:=List.mem_flatten.mp hx
  rw[(List.mem_replicate.mp h1).2] at h2
  simp only[List.mem_cons,List.not_mem_nil,or_false] at h2
  rcases h2 with rfl |rfl |rfl |rfl<;> decide
 generalize (List.replicate (2*most) [(80:Int),5,2,3]).flatten=tl at hrl hrg hrm
 rw[show([(80:Int),5,2,3]).length=4 from rfl] at hrl
 rw[show Ic [(most:Int)+1,5,4,3,3] tl= .ok ([(most:Int)+1,5,4,3,3]++tl) from Xj (sz (by simp;omega))]
 simp only[Rs.okb]
 refine Ok.bind (Ok.noE (Ej ns hp _ (by simp;omega) λx hx=>?_)) λr hr=>?_
 ·rw[List.mem_append] at hx
  rcases hx with h |h
  ·simp only[List.mem_cons,List.not_mem_nil,or_false] at h
   rcases h with rfl |rfl |rfl |rfl |rfl
   ·refine⟨by omega,by omega⟩
   all_goals decide
  ·exact hrm x h
 obtain⟨hl,hv⟩:=hr
 have hl':r.length=5+8*most:=by rw[hl];simp;omega
 have hv5:∀(j c:Nat) (s:Int),c<4->j<2*most-> [(80:Int),5,2,3][c]?=some s->∀h:5+4*j+c<r.length,0<=r[5+4*j+c]/\r[5+4*j+c]<s:=λj c s hc hj hs h=>by
  refine hv (5+4*j+c) _ s (by simp[h]) ?_
  rw[List.getElem?_append_right (by simp;omega)]
  simp only[List.length_cons,List.length_nil]
  rw[show 5+4*j+c-(0+1+1+1+1+1)=4*j+c by omega,hrg hc hj]
  exact hs
 have v0:=hv 0 r[0] _ (by simp) rfl
 have v1:=hv 1 r[1] _ (by simp) rfl
 have v2:=hv 2 r[2] _ (by simp) rfl
 have v3:=hv 3 r[3] _ (by simp) rfl
 have v4:=hv 4 r[4] _ (by simp) rfl
 rw[Y6 (r:=r) (k:=0) (n:=0) rfl (by omega),Y6 (r:=r) (k:=1) (n:=1) rfl (by omega),Y6 (r:=r) (k:=2) (n:=2) rfl (by omega),Y6 (r:=r) (k:=3) (n:=3) rfl (by omega),Y6 (r:=r) (k:=4) (n:=4) rfl (by omega)]
 simp only[Rs.okb]
 obtain⟨m0,hm0⟩:∃m0:Nat,r[0]=m0:=⟨r[0].toNat,by omega⟩
 rw[hm0] at v0⊢
 rw[JM (by omega),Vk (by decide) (by decide) (by decide) (by decide)]
 simp only[Rs.okb]
 rw[Xj (sz (by simp))]
 simp only[Rs.okb]
 have hz:∃z,atR [0,1,(10:Int)^(9:Int).toNat] r[3]= .ok z/\0<=z/\z<=1000000000:=by
  rcases(by omega:r[3]=0∨r[3]=1∨r[3]=2) with h |h |h<;> rw[h]
  ·exact⟨0,rfl,by decide,by decide⟩
  ·exact⟨1,rfl,by decide,by decide⟩
  ·exact⟨1000000000,rfl,by decide,by decide⟩
 obtain⟨z,hz,hz0,hz1⟩:=hz
 rw[hz]
 simp only[Rs.okb]
 refine Ok.bind (Ok.forN (λi (g:Int×List (Int×Int)×List Int)=>g.2.1.map Prod.fst=g.2.2/\g.2.2.length=i/\0<=g.1/\g.1<=(i:Int)*3000000000/\g.2.2.Pairwise (· < ·)/\(∀x∈g.2.2,1<=x/\x<=g.1)/\∀e∈g.2.1,e.2=1∨e.2= -1) ⟨rfl,rfl,Int.le_refl _,by decide,List.Pairwise.nil,λx hx=>(by cases hx),λx hx=>(by cases hx)⟩ λi a g ha hg=>?_) λg hg=>?_
 ·obtain⟨rfl,hi⟩:=Zz ha
  obtain⟨h1,h2,h3,h4,h5,h6,h7⟩:=hg
  have hA:5+4*(2*i)+3<r.length:=by omega
  have hB:5+4*(2*i)+2<r.length:=by omega
  have kA:=hv5 (2*i) 3 3 (by omega) (by omega) rfl hA
  have kB:=hv5 (2*i) 2 2 (by omega) (by omega) rfl hB
  rw[Ze (a:=8) (by decide) (by decide)]
  simp only[Rs.okb]
  rw[Y6 (r:=r) (k:=8*(i:Int)+8) (n:=5+4*(2*i)+3) (by omega) hA,Y6 (r:=r) (k:=8*(i:Int)+7) (n:=5+4*(2*i)+2) (by omega) hB]
  simp only[Rs.okb]
  generalize r[5+4*(2*i)+3]=y at kA
  generalize r[5+4*(2*i)+2]=y2 at kB
  rw[Ze (a:=y) (by omega) (by omega),Ze (a:=2) (by decide) (by decide)]
  simp only[Rs.okb]
  have hd1:g.2.1.length=i:=by rw[←h2, ←h1,List.length_map]
  rw[Xj (VU (by omega)),Xj (VU (by omega))]
  have q0:0<=y*z:=Int.mul_nonneg kA.1 hz0
  have q1:y*z<=2*1000000000:=Int.mul_le_mul (by omega) hz1 hz0 (by decide)
  generalize y*z=st at q0 q1
  have hnew:∀x∈g.2.1.map Prod.fst,x≠g.1+1+st:=λx hx e=>by
   rw[h1] at hx
   have:=(h6 x hx).2
   omega
  rw[Bf hnew]
  refine⟨_,rfl,?_,?_,?_,?_,?_,?_,?_⟩
  ·show(g.2.1++[(g.1+1+st,2*y2-1)]).map Prod.fst=g.2.2++[g.1+1+st]
   rw[List.map_append,h1];rfl
  ·show(g.2.2++[g.1+1+st]).length=_
   simp[h2]
  ·show 0<=g.1+1+st
   omega
  ·show g.1+1+st<=_
   omega
  ·show(g.2.2++[g.1+1+st]).Pairwise (· < ·)
   rw[List.pairwise_append]
   refine⟨h5,by simp,λx hx w hw=>?_⟩
   rw[List.mem_singleton] at hw
   have:=(h6 x hx).2
   omega
  ·intro x hx
   show 1<=x/\x<=g.1+1+st
   rcases List.mem_append.mp hx with h |h
   ·have:=h6 x h;omega
   ·rw[List.mem_singleton] at h;omega
  ·intro e he
   rcases List.mem_append.mp he with h |h
   ·exact h7 e h
   ·rw[List.mem_singleton] at h
    subst h
    show 2*y2-1=1∨2*y2-1= -1
    omega
 obtain⟨h1,h2,h3,h4,h5,h6,h7⟩:=hg
 rw[Zy] at h2 h4
 generalize hN:g.2.2=names at*
 generalize hD:g.2.1=d at*
 have hsg:∀x∈names,XS d x=some ((XS d x).getD 1)/\((XS d x).getD 1=1∨(XS d x).getD 1= -1):=λx hx=>by
  obtain⟨v,e1,e2⟩:=Kz (d:=d) (x:=x) (by rw[h1];exact hx)
  rw[e1]
  exact⟨rfl,h7 _ e2⟩
 have hmap:GL names (λa=>(ZS d a).bind λx=>.ok (a,x))= .ok (names.map λa=>(a,(XS d a).getD 1)):=Qc (sz (by omega)) λa ha=>by
  unfold ZS
  rw[(hsg a ha).1];rfl
 refine Ok.bind (R:=λws:List (List Int)=>ws.length<=5/\ws.flatten.Perm (names.flatMap λx=>[x,-x])) (Ok.ite (λ_=>?_) λ_=>?_) λws hws=>?_
 ·refine Ok.bind (R:=λws:List (List Int)=>ws.length<=5/\ws.flatten.Perm (names.flatMap λx=>[x,-x])) ?_ λws hws=>⟨_,rfl,hws⟩
  refine Ok.bind (Ok.noE (CV (by omega) (by omega))) λl hl2=>?_
  rw[show(2:Int)+r[4]=((2+r[4].toNat:Nat):Int) by omega]
  have hln:=hl2.length_eq
  refine Ok.noE (Ok.imp (Fc (sg:=λx=>(XS d x).getD 1) (by omega) (by omega) (λx hx=>(hsg x (hl2.mem_iff.mp hx)).1) (λx hx=>(hsg x (hl2.mem_iff.mp hx)).2) (by omega) (by omega)) λws hw=>⟨by omega,hw.2.trans (Zr _ hl2)⟩)
 ·refine Ok.bind (R:=λws:List (List Int)=>ws.length<=5/\ws.flatten.Perm (names.flatMap λx=>[x,-x])) ?_ λws hws=>⟨_,rfl,hws⟩
  obtain⟨rings,hrings⟩:∃k:Nat,max r[1] (min (names.length:Int) 1)=(k:Int):=⟨(max r[1] (min (names.length:Int) 1)).toNat,by omega⟩
  rw[hrings]
  refine Ok.noE (Ok.imp (IN (by omega) (by omega) (λhne=>?_) (by omega)) λws hw=>⟨by omega,hw.2⟩)
  have:0<names.length:=List.length_pos_iff.mpr hne
  omega
 ·rw[hmap]
  simp only[Rs.okb]
  have hfst:(names.map λa=>(a,(XS d a).getD 1)).map Prod.fst=names:=by rw[List.map_map];exact List.map_id' _
  refine⟨_,rfl,?_,?_,?_,?_,hws.1⟩
  ·show(names.map λa=>(a,(XS d a).getD 1)).length<=most
   simp;omega
  ·show((names.map λa=>(a,(XS d a).getD 1)).map Prod.fst).Pairwise _
   rw[hfst];exact h5
  ·intro e he
   obtain⟨x,hx,rfl⟩:=List.mem_map.mp he
   have:=h6 x hx
   refine⟨this.1,?_,(hsg x hx).2⟩
   show x<2^50
   omega
  ·show ws.flatten.Perm (((names.map λa=>(a,(XS d a).getD 1)).map Prod.fst).flatMap λx=>[x,-x])
   rw[hfst];exact hws.2
section
variable {α β γ δ ρ:Type}
noncomputable def enF:Nat->List α->List (Int×α)
 |_,[]=>[]
 |j,x::w=>((j:Int),x)::enF (j+1) w
theorem DL:∀(w:List α) (j:Nat),((List.range' j w.length).map λ(i:Nat)=>(i:Int)).zip w=enF j w
 | [],_=>rfl
 |x::w,j=>by
  rw[List.length_cons,List.range'_succ,List.map_cons,List.zip_cons_cons,DL w (j+1)];rfl
theorem Jv (w:List α):Vh w=enF 0 w:=by
 unfold Vh
 rw[List.range_eq_range'];exact DL w 0
noncomputable def sc (bd:δ->Nat->α->Option ρ)(ap:δ->α->δ):δ->Nat->List α->Option ρ
 |_,_,[]=>none
 |ah,j,x::w=>match bd ah j x with
  |some r=>some r
  |none=>sc bd ap (ap ah x) (j+1) w
noncomputable def Sc (bd:δ->Nat->α->Option ρ)(ap:δ->α->δ)(I:γ->δ->Nat->List α->Prop)(ah:δ)(j:Nat)(w:List α)(c:Ctl ρ γ):Prop:=match sc bd ap ah j w with
 |some r=>c= .ret r
 |none=>∃ g' ah',c= .nx g'/\I g' ah' (j+w.length) []
theorem VV {f:γ->Int×α->Rs (Ctl ρ γ)}{bd:δ->Nat->α->Option ρ}{ap:δ->α->δ}(I:γ->δ->Nat->List α->Prop)
  (hf:∀g ah j x w,I g ah j (x::w)->Ok (f g ((j:Int),x)) λc=>match bd ah j x with
   |some r=>c= .ret r
   |none=>∃ g',c= .nx g'/\I g' (ap ah x) (j+1) w):
  ∀(w:List α) (j:Nat) (g:γ) (ah:δ),I g ah j w->Ok (forC (enF j w) g f) (Sc bd ap I ah j w)
 | [],j,g,ah,h=>⟨_,rfl,g,ah,rfl,h⟩
 |x::w,j,g,ah,h=>by
  obtain⟨c,h1,h2⟩:=hf g ah j x w h
  unfold Sc sc
  show Ok ((f g ((j:Int),x)).bind _) _
  rw[h1,Rs.okb]
  cases e:bd ah j x with
  |some r0=>
   rw[e] at h2
   have h2':c= .ret r0:=h2
   subst h2'
   exact⟨_,rfl,rfl⟩
  |none=>
   rw[e] at h2
   obtain⟨g',h3,i'⟩:=h2
   subst h3
   have z:=VV I hf w (j+1) g' (ap ah x) i'
   unfold Sc at z
   rw[List.length_cons,show j+(w.length+1)=j+1+w.length by omega]
   exact z
end
structure Hs (d:List (Int×Bool))(l:List Int):Prop where
 k:∀x,(XS d x).isSome=decide (x∈l)
 n:d.length<=l.length
theorem GG (d:List (Int×Bool))(x:Int):(XS d x).isSome=d.any λkv=>decide (kv.1=x):=by
 unfold XS
 induction d with
 |nil=>rfl
 |cons a d ih=>
  rw[List.find?_cons,List.any_cons]
  cases decide (a.1=x) with
  |true=>rfl
  |false=>exact ih
theorem Hs.nil:Hs [] []:=⟨λx=>by simp[XS],Nat.le_refl _⟩
theorem Hs.put {d:List (Int×Bool)}{l:List Int}(h:Hs d l)(k:Int)(v:Bool):Hs (Zg d k v) (l++[k]):=by
 have hk:=h.k k
 rw[GG] at hk
 refine⟨λx=>?_,?_⟩
 ·have hx:=h.k x
  rw[GG] at hx⊢
  have e:decide (x∈l++[k])=(decide (x∈l) || decide (x=k)):=by rw[←Bool.decide_or];simp
  rw[e, ←hx]
  unfold Zg
  split
  ·rename_i c
   rw[List.any_map]
   have:(λkv:Int×Bool=>decide (kv.1=x))∘(λkv:Int×Bool=>if kv.1=k then(kv.1,v) else kv)=λkv=>decide (kv.1=x):=by
    funext kv
    show decide ((if kv.1=k then(kv.1,v) else kv).1=x)=_
    split<;> rfl
   rw[this]
   by_cases q:x=k
   ·subst q;rw[c];rfl
   ·rw[decide_eq_false q,Bool.or_false]
  ·rw[List.any_append]
   have:(decide (k=x))=decide (x=k):=by rw[decide_eq_decide];exact eq_comm
   simp[this]
 ·unfold Zg
  have:=h.n
  split<;> simp<;> omega
theorem Hs.puts:∀(ks:List Int) {d:List (Int×Bool)}{l:List Int},Hs d l->Hs (J9 d (ks.map λk=>(k,true))) (l++ks)
 | [],d,l,h=>by rw[List.append_nil];exact h
 |k::ks,d,l,h=>by
  have:=Hs.puts ks (h.put k true)
  rw[List.append_assoc] at this
  exact this
structure Sm (n:Nat)(D:List (List Int)×List (Int×Int)):Prop where
 a:D.1.length<=n
 b:D.2.length<=n
 c:D.1.flatten.length<=n
 d:∀e∈D.2,-10<e.2/\e.2<10
theorem Sm.row {n:Nat}{D:List (List Int)×List (Int×Int)}(h:Sm n D){w:List Int}(hw:w∈D.1):w.length<=n:=by
 refine Nat.le_trans ?_ h.c
 obtain⟨a,b,e⟩:=List.append_of_mem hw
 rw[e,List.flatten_append,List.flatten_cons,List.length_append,List.length_append];omega
theorem Sm.le {n m:Nat}{D:List (List Int)×List (Int×Int)}(h:Sm n D)(e:n<=m):Sm m D:=⟨Nat.le_trans h.a e,Nat.le_trans h.b e,Nat.le_trans h.c e,h.d⟩
noncomputable abbrev T3 (i j:Nat):List SI:=[.inl "walk", .inr (i:Int), .inr (j:Int)]
noncomputable abbrev T2 (j:Nat):List SI:=[.inl "sign", .inr (j:Int)]
noncomputable def bdX (nm fl ah:List Int)(x:Int):Bool:=decide (x=0) || (decide (x∈ah) || (!decide (-x∈fl) || !decide ((x.natAbs:Int)∈nm)))
noncomputable def bW (nm fl:List Int)(i:Nat)(ah:List Int)(j:Nat)(x:Int):Option (Option (List SI)):=if bdX nm fl ah x=true then some (some (T3 i j)) else none
noncomputable def scW (nm fl:List Int)(i:Nat)(ah:List Int)(w:List Int):Option (Option (List SI)):=sc (bW nm fl i) (λah x=>ah++[x]) ah 0 w
noncomputable def scA (nm fl:List Int)(ws:List (List Int)):Option (Option (List SI)):=sc (λah i w=>scW nm fl i ah w) (λah w=>ah++w) [] 0 ws
noncomputable def bS (fl:List Int)(a:Int)(j:Nat)(e:Int×Int):Option (Option (List SI)):=if(decide (e.1<=a) || (!decide (e.2=1∨e.2= -1) || !decide (e.1∈fl)))=true then some (some (T2 j)) else none
noncomputable def scS (fl:List Int)(es:List (Int×Int)):Option (Option (List SI)):=sc (bS fl) (λ_ e=>e.1) 0 0 es
noncomputable def mnP (D:List (List Int)×List (Int×Int)):Option (List SI):=if 40<D.2.length then some [.inl "many", .inr (D.2.length:Int)] else if 12<D.1.length then some [.inl "many", .inr (D.1.length:Int)] else none
noncomputable def LP (D:List (List Int)×List (Int×Int)):Option (List SI):=match scA (D.2.map (·.1)) D.1.flatten D.1 with
 |some r=>r
 |none=>match scS D.1.flatten D.2 with
  |some r=>r
  |none=>mnP D
theorem KI {n:Nat}{D:List (List Int)×List (Int×Int)}(h:Sm n D)(hn:n<=1000):Ok (Ys D.1) λd=>Hs d D.1.flatten:=by
 unfold Ys
 simp only[Rs.okb]
 refine Ok.bind (Ok.forN (λi (g:List (Int×Bool))=>Hs g (D.1.take i).flatten) Hs.nil λi w g hw hg=>?_) λg hg=>⟨_,rfl,by rw[List.take_length] at hg;exact hg⟩
 have hi:=(List.getElem?_eq_some_iff.mp hw).1
 have hc:=h.c
 have hs:(D.1.take i).flatten.length+w.length<=D.1.flatten.length:=by
  conv=>rhs;rw[←List.take_append_drop (i+1) D.1,List.flatten_append,List.length_append,List.take_add_one,hw,Option.toList_some,List.flatten_append,List.length_append,List.flatten_singleton]
  omega
 refine Ok.bind (Ok.forN (λj (g:List (Int×Bool))=>Hs g ((D.1.take i).flatten++w.take j)) (by rw[List.take_zero,List.append_nil];exact hg) λj x g hx hg=>?_) λg hg=>⟨_,rfl,?_⟩
 ·have hj:=(List.getElem?_eq_some_iff.mp hx).1
  have:=hg.n
  rw[List.length_append,List.length_take] at this
  rw[Xj (VU (by omega))]
  refine⟨_,rfl,?_⟩
  rw[List.take_add_one,hx,Option.toList_some, ←List.append_assoc]
  exact hg.put x true
 ·rw[List.take_length] at hg
  rw[List.take_add_one,hw]
  simpa using hg
section
variable {n:Nat}{D:List (List Int)×List (Int×Int)}
theorem LR {β:Type}{k:Nat}{m:Rs β}(h:k<=100):chk (k<=sizeLine) m=m:=Xj (sz (by omega))
theorem VW (h:Sm n D)(hn:n<=1000){st:List (Int×Bool)}(hst:Hs st D.1.flatten):YA D.1 D.2 st= .ok ((scA (D.2.map (·.1)) D.1.flatten D.1).getD none):=by
 have hb:=h.b
 have hc:=h.c
 refine Ok.eq ?_
 unfold YA
 simp only[Rs.okb]
 rw[Qc (h:=λe:Int×Int=>(e.1,true)) (sz (by omega)) λa _=>rfl,Rs.okb]
 have hsg:Hs (J9 [] (D.2.map λe:Int×Int=>(e.1,true))) (D.2.map (·.1)):=by
  have:=Hs.puts (D.2.map (·.1)) Hs.nil
  rw[List.map_map] at this
  exact this
 generalize J9 [] (D.2.map λe:Int×Int=>(e.1,true))=sg at hsg
 rw[Rs.okb,Jv]
 refine Ok.bind (VV (bd:=λah i w=>scW (D.2.map (·.1)) D.1.flatten i ah w) (ap:=λah w=>ah++w) (λg ah _ Y7=>Hs g ah/\ah++Y7.flatten=D.1.flatten) (λg ah i w Y7 hI=>?_) D.1 0 [] [] ⟨Hs.nil,rfl⟩) λc hc=>?_
 ·obtain⟨hg,he⟩:=hI
  rw[List.flatten_cons] at he
  rw[Jv]
  refine Ok.bind (VV (bd:=bW (D.2.map (·.1)) D.1.flatten i) (ap:=λah x=>ah++[x]) (λg ah' _ r=>Hs g ah'/\ah'++r=ah++w) (λg ah' j x r hI=>?_) w 0 g ah ⟨hg,rfl⟩) λc hc=>?_
  ·obtain⟨hg',he'⟩:=hI
   have hl:g.length<100000:=by
    have h1:=hg'.n
    have h2:=congrArg List.length he'
    have h3:=congrArg List.length he
    simp only[List.length_append,List.length_cons] at h2 h3
    omega
   dsimp only
   rw[GV (c:=!(XS st (-x)).isSome) (λ_=>rfl),Rs.okb,GV (c:=((XS g x).isSome || !(XS st (-x)).isSome) || !(XS sg (x.natAbs:Int)).isSome) (λ_=>GV λ_=>rfl),Rs.okb,hg'.k,hst.k,hsg.k]
   have e:(decide (x=0) || ((decide (x∈ah') || !decide (-x∈D.1.flatten)) || !decide ((x.natAbs:Int)∈D.2.map (·.1))))=bdX (D.2.map (·.1)) D.1.flatten ah' x:=by
    unfold bdX;simp only[Bool.or_assoc]
   rw[e]
   unfold bW
   cases bdX (D.2.map (·.1)) D.1.flatten ah' x with
   |true=>
    rw[if_pos rfl,if_pos rfl,LR (by simp)]
    exact⟨_,rfl,rfl⟩
   |false=>
    rw[if_neg Bool.false_ne_true,if_neg Bool.false_ne_true,Xj (VU (by omega))]
    refine⟨_,rfl,_,rfl,hg'.put x true,?_⟩
    rw[List.append_assoc];exact he'
  ·unfold Sc at hc
   unfold scW
   cases e:sc (bW (D.2.map (·.1)) D.1.flatten i) (λah x=>ah++[x]) ah 0 w with
   |some r=>
    rw[e] at hc
    have hc':c= .ret r:=hc
    subst hc'
    exact⟨_,rfl,rfl⟩
   |none=>
    rw[e] at hc
    obtain⟨g',ah',h1,h2,h3⟩:=hc
    subst h1
    rw[List.append_nil] at h3
    subst h3
    exact⟨_,rfl,g',rfl,h2,by rw[List.append_assoc];exact he⟩
 ·unfold Sc at hc
  show Ok _ λb=>b=(scA (D.2.map (·.1)) D.1.flatten D.1).getD none
  unfold scA
  cases e:sc (λah i w=>scW (D.2.map (·.1)) D.1.flatten i ah w) (λah w=>ah++w) [] 0 D.1 with
  |some r=>
   rw[e] at hc
   have hc':c= .ret r:=hc
   subst hc'
   exact⟨_,rfl,rfl⟩
  |none=>
   rw[e] at hc
   obtain⟨g',ah',h1,h2,h3⟩:=hc
   subst h1
   exact⟨_,rfl,rfl⟩
theorem V0 {st:List (Int×Bool)}(hst:Hs st D.1.flatten):YB D.2 st= .ok ((scS D.1.flatten D.2).getD none):=by
 refine Ok.eq ?_
 unfold YB
 simp only[Rs.okb]
 rw[Jv]
 refine Ok.bind (VV (bd:=bS D.1.flatten) (ap:=λ_ e=>e.1) (λg a _ _=>g=a) (λg a j e r hI=>?_) D.2 0 0 0 rfl) λc hc=>?_
 ·subst hI
  dsimp only
  have e2:decide (e.2∈[(1:Int),-1])=decide (e.2=1∨e.2= -1):=by rw[decide_eq_decide];simp
  rw[GV (c:=!decide (e.2=1∨e.2= -1) || !decide (e.1∈D.1.flatten)) (λ_=>by rw[GV (c:=!(XS st e.1).isSome) λ_=>rfl,hst.k,e2]),Rs.okb]
  unfold bS
  cases(decide (e.1<=g) || (!decide (e.2=1∨e.2= -1) || !decide (e.1∈D.1.flatten))) with
  |true=>
   rw[if_pos rfl,if_pos rfl,LR (by simp)]
   exact⟨_,rfl,rfl⟩
  |false=>exact⟨_,rfl,_,rfl,rfl⟩
 ·unfold Sc at hc
  unfold scS
  cases e:sc (bS D.1.flatten) (λ_ e=>e.1) 0 0 D.2 with
  |some r=>
   rw[e] at hc
   have hc':c= .ret r:=hc
   subst hc'
   exact⟨_,rfl,rfl⟩
  |none=>
   rw[e] at hc
   obtain⟨g',ah',h1,_⟩:=hc
   subst h1
   exact⟨_,rfl,rfl⟩
theorem Hr:YD D.1 D.2= .ok (mnP D):=by
 unfold YD mnP
 simp only[Rs.okb]
 by_cases c:40<D.2.length
 ·rw[if_pos (decide_eq_true (by omega)),if_pos c,LR (by simp)];rfl
 ·rw[if_neg (by rw[decide_eq_true_eq];omega),if_neg c]
  by_cases c:12<D.1.length
  ·rw[if_pos (decide_eq_true (by omega)),if_pos c,LR (by simp)];rfl
  ·rw[if_neg (by rw[decide_eq_true_eq];omega),if_neg c]
theorem LN {α δ ρ:Type}{bd:δ->Nat->α->Option ρ}{ap:δ->α->δ}{P:ρ->Prop}(hb:∀ah j x r,bd ah j x=some r->P r):∀(w:List α) (ah:δ) (j:Nat) (r:ρ),sc bd ap ah j w=some r->P r
 | [],_,_,_,h=>nomatch h
 |x::w,ah,j,r,h=>by
  unfold sc at h
  cases e:bd ah j x with
  |some r'=>rw[e] at h;cases h;exact hb _ _ _ _ e
  |none=>rw[e] at h;exact LN hb w _ _ r h
noncomputable def Tp (l:List SI):Prop:=∃ (t:Str) (i:Int) (is:List Int),l= .inl t::(i::is).map .inr
theorem L7 {nm fl:List Int}{ws:List (List Int)}{r:Option (List SI)}(h:scA nm fl ws=some r):∃l,r=some l/\Tp l:=by
 refine LN (P:=λr=>∃ l,r=some l/\Tp l) (λah i w r e=>LN (bd:=bW nm fl i) (ap:=λah x=>ah++[x]) (P:=λr=>∃ l,r=some l/\Tp l) (λah j x r e=>?_) _ _ _ _ e) _ _ _ _ h
 unfold bW at e
 split at e
 ·cases e;exact⟨_,rfl,_,_,[(j:Int)],rfl⟩
 ·cases e
theorem Mo {fl:List Int}{es:List (Int×Int)}{r:Option (List SI)}(h:scS fl es=some r):∃l,r=some l/\Tp l:=by
 refine LN (P:=λr=>∃ l,r=some l/\Tp l) (λah j x r e=>?_) _ _ _ _ h
 unfold bS at e
 split at e
 ·cases e;exact⟨_,rfl,_,_,[],rfl⟩
 ·cases e
theorem BQ (h:Sm n D)(hn:n<=1000):ZI D= .ok (LP D):=by
 obtain⟨st,h1,hst⟩:=KI h hn
 unfold ZI LP
 simp only[Rs.okb]
 rw[h1,YS,Rs.okb,VW h hn hst,YS,Rs.okb,V0 hst,Hr]
 cases e:scA (D.2.map (·.1)) D.1.flatten D.1 with
 |some r=>obtain⟨l,rfl,_⟩:=L7 e;rfl
 |none=>
  cases e:scS D.1.flatten D.2 with
  |some r=>obtain⟨l,rfl,_⟩:=Mo e;rfl
  |none=>rfl
end
noncomputable def spB:List Nat->List (List Nat)
 | []=>[[]]
 |c::r=>if c=32 then[]::spB r else match spB r with
  |h::t=>(c::h)::t
  | []=>[[c]]
noncomputable def Dq (p:List Nat):List (List Nat)->List (List Nat)
 | []=>[p]
 |h::t=>(p++h)::t
noncomputable def Fh:List Nat->Nat->List Nat
 | [],_=>[]
 |c::r,k=>if c=32 then k::Fh r (k+1) else Fh r (k+1)
theorem UB:∀l,spB l≠ []
 | []=>by simp[spB]
 |c::r=>by
  unfold spB
  split
  ·simp
  ·split<;> simp
theorem Ul {l:List (List Nat)}(h:l≠ []):Dq [] l=l:=by
 cases l with
 |nil=>exact absurd rfl h
 |cons a t=>rfl
theorem FD (c:Nat)(p:List Nat)(r:List Nat)(h:c≠32):Dq (p++[c]) (spB r)=Dq p (spB (c::r)):=by
 rw[spB,if_neg h]
 cases e:spB r with
 |nil=>exact absurd e (UB r)
 |cons a t=>simp[Dq]
theorem Jo (l:List Nat):∀(r:List Nat) (k st:Nat),l.drop k=r->st<=k->k<=l.length->(((st::(Fh r k).map (· +1)).zip (Fh r k++[l.length])).map λp=>(l.drop p.1).take (p.2-p.1))=Dq ((l.drop st).take (k-st)) (spB r)
 | [],k,st,e,hs,hk=>by
  have:l.length<=k:=List.drop_eq_nil_iff.mp e
  have e2:k=l.length:=by omega
  simp[Fh,spB,Dq,e2]
 |c::r,k,st,e,hs,hk=>by
  have hlt:k<l.length:=by
   rcases Nat.lt_or_ge k l.length with h |h
   ·exact h
   ·rw[List.drop_eq_nil_iff.mpr h] at e;cases e
  have e1:l.drop (k+1)=r:=by rw[←List.drop_drop,e];rfl
  have hc:l[k]?=some c:=by
   have:=congrArg (·[0]?) e
   simpa[List.getElem?_drop] using this
  by_cases h:c=32
  ·subst h
   have ih:=Jo l r (k+1) (k+1) e1 (Nat.le_refl _) hlt
   rw[Fh,if_pos rfl,spB,if_pos rfl]
   rw[Nat.sub_self,List.take_zero,Ul (UB r)] at ih
   simp only[List.map_cons,List.cons_append,List.zip_cons_cons,Dq,List.append_nil]
   rw[ih]
  ·have ih:=Jo l r (k+1) st e1 (by omega) hlt
   rw[Fh,if_neg h,ih, ←FD c _ r h]
   congr 1
   rw[show k+1-st=(k-st)+1 by omega,List.take_add_one]
   congr 1
   rw[List.getElem?_drop,show st+(k-st)=k by omega,hc]
   rfl
theorem Dp (x:Str):∀(r:List Nat) (k:Nat) (st:Array Nat) (fr:Nat),x.cps.toList.drop k=r->k<=x.length->st.size<=k->fr<=k->
  (forIn (List.range' k (x.length+1-k)) (st,fr) (StrLaws.occBody x (" ":Str) x.length (x.length+1))).run.fst.toList=st.toList++Fh r k
 | [],k,st,fr,e,hk,h1,h2=>by
  have hl:x.cps.toList.length=x.length:=Array.length_toList
  have:x.cps.toList.length<=k:=List.drop_eq_nil_iff.mp e
  have e2:k=x.length:=by omega
  subst e2
  rw[show x.length+1-x.length=0+1 by omega,List.range'_succ,List.range'_zero,List.forIn_cons]
  unfold StrLaws.occBody
  rw[if_neg (λz=>by have:=z.1.2;have e:(" ":Str).length=1:=rfl;omega)]
  simp[Fh]
 |c::r,k,st,fr,e,hk,h1,h2=>by
  have hl:x.cps.toList.length=x.length:=Array.length_toList
  have hlt:k<x.length:=by
   rcases Nat.lt_or_ge k x.cps.toList.length with h |h
   ·omega
   ·rw[List.drop_eq_nil_iff.mpr h] at e;cases e
  have e1:x.cps.toList.drop (k+1)=r:=by rw[←List.drop_drop,e];rfl
  have sa:Builtin.Str.subAt x (" ":Str) k=(c==32):=by
   rw[StrLaws.subAt_eq,e]
   show([c]== [32])=(c==32)
   simp
  rw[show x.length+1-k=(x.length+1-(k+1))+1 by omega,List.range'_succ,List.forIn_cons]
  unfold StrLaws.occBody
  have l1:(" ":Str).length=1:=rfl
  by_cases h:c=32
  ·subst h
   rw[if_pos ⟨⟨⟨by show st.size<_;omega,h2⟩,by omega⟩,by rw[sa];rfl⟩]
   have ih:=Dp x r (k+1) (st.push k) (k+(" ":Str).length) e1 hlt (by simp;omega) (by omega)
   rw[Fh,if_pos rfl]
   unfold StrLaws.occBody at ih
   refine(Eq.trans ?_ ih).trans (by simp)
   rfl
  ·rw[if_neg (λz=>by rw[sa] at z;exact h (by simpa using z.2))]
   have ih:=Dp x r (k+1) st fr e1 hlt (by omega) (by omega)
   rw[Fh,if_neg h]
   unfold StrLaws.occBody at ih
   exact ih
theorem De (x:Str):Builtin.Str.occurrences x (" ":Str) 0 x.length (x.length+1)=Fh x.cps.toList 0:=by
 rw[StrLaws.occ_eq]
 have:=Dp x x.cps.toList 0 #[] 0 rfl (Nat.zero_le _) (Nat.zero_le _) (Nat.zero_le _)
 simpa using this
noncomputable def lsS (w:Str):List Nat:=w.cps.toList
theorem JT {a b:Str}(h:lsS a=lsS b):a=b:=Str.ext' (Array.toList_inj.mp h)
theorem DJ (x:Str):(Txt.split x (" ":Str)).map lsS=spB (lsS x):=by
 have hl:(lsS x).length=x.length:=Array.length_toList
 have key:=Jo (lsS x) (lsS x) 0 0 rfl (Nat.le_refl _) (Nat.zero_le _)
 rw[Nat.sub_self,List.take_zero,Ul (UB _)] at key
 have l1:(" ":Str).length=1:=rfl
 unfold Txt.split
 split
 ·rename_i h
  have h0:x.length=0:=by
   have hk:Builtin.Str.strKind (" ":Str)=1:=by decide+kernel
   have hk2:1<=Builtin.Str.strKind x:=by unfold Builtin.Str.strKind;split;omega;split<;> omega
   rw[hk,l1] at h
   simp only[Bool.or_eq_true,decide_eq_true_eq] at h
   omega
  have e:lsS x=[]:=List.length_eq_zero_iff.mp (hl.trans h0)
  simp[e,spB]
 ·split
  ·rename_i h
   rw[De] at h
   have e:Fh (lsS x) 0=[]:=by simpa[lsS] using h
   rw[e] at key
   simp at key
   rw[←key]
   simp
  ·rw[De,l1, ←key]
   unfold Builtin.Str.partsBetween
   simp only[List.map_map]
   rw[hl]
   refine List.map_congr_left λp _=>?_
   exact StrLaws.strSub_toList x p.1 p.2
noncomputable def jnB (s:List Nat):List (List Nat)->List Nat
 | []=>[]
 | [w]=>w
 |w::v::r=>w++s++jnB s (v::r)
theorem Uf (s:Str):∀ws:List Str,lsS (Txt.join s ws)=jnB (lsS s) (ws.map lsS):=λws=>by
 unfold Txt.join
 rw[StrLaws.glued_eq_join]
 induction ws with
 |nil=>rfl
 |cons w r ih=>
  cases r with
  |nil=>rfl
  |cons v r=>
   show lsS (w++s++Str.join s (v::r))=lsS w++lsS s++jnB (lsS s) (lsS v::r.map lsS)
   rw[show jnB (lsS s) (lsS v::r.map lsS)=jnB (lsS s) ((v::r).map lsS) from rfl, ←ih]
   unfold lsS
   rw[Str.cps_append,Str.cps_append]
   simp
theorem DB {w:List Nat}(r:List Nat)(h:32∉w):spB (w++r)=Dq w (spB r):=by
 induction w with
 |nil=>rw[Ul (UB r)];rfl
 |cons c w ih=>
  have hc:c≠32:=λe=>h (by simp[e])
  have ih:=ih λz=>h (List.mem_cons_of_mem _ z)
  show spB (c::(w++r))=_
  rw[spB,if_neg hc,ih]
  cases e:spB r with
  |nil=>exact absurd e (UB r)
  |cons a t=>rfl
theorem El:∀{ws:List (List Nat)},ws≠ []->(∀w∈ws,32∉w)->spB (jnB [32] ws)=ws
 | [],h,_=>absurd rfl h
 | [w],_,h=>by
  have:=DB [] (h w (by simp))
  rw[List.append_nil] at this
  rw[jnB,this];simp[spB,Dq]
 |w::v::r,_,h=>by
  rw[jnB,List.append_assoc,DB _ (h w (by simp))]
  show Dq w (spB (32::jnB [32] (v::r)))=_
  rw[spB,if_pos rfl,El (by simp) λu hu=>h u (List.mem_cons_of_mem _ hu)]
  simp[Dq]
theorem HI {l m:List Str}(h:l.map lsS=m.map lsS):l=m:=by
 induction l generalizing m with
 |nil=>cases m with
  |nil=>rfl
  |cons a m=>simp at h
 |cons a l ih=>cases m with
  |nil=>simp at h
  |cons b m=>
   rw[List.map_cons,List.map_cons] at h
   injection h with h1 h2
   rw[JT h1,ih h2]
theorem G7 {ws:List Str}(hne:ws≠ [])(h:∀w∈ws,32∉lsS w):Txt.split (Txt.join (" ":Str) ws) (" ":Str)=ws:=by
 apply HI
 rw[DJ,Uf]
 show spB (jnB [32] (ws.map lsS))=_
 exact El (by simpa using hne) λw hw=>by
  obtain⟨u,hu,rfl⟩:=List.mem_map.mp hw
  exact h u hu
noncomputable def mid {α:Type}(s:α):List (List α)->List α
 | []=>[]
 | [w]=>w
 |w::v::r=>w++s::mid s (v::r)
noncomputable def dg (m:Nat):List Nat:=(Nat.toDigits 10 m).map Char.toNat
theorem Jm (m:Nat):NumText.AllDigits (dg m):=λc hc=>by
 obtain⟨ch,hch,e⟩:=List.mem_map.mp hc
 have r:=PyProof.Rows.digit_range (Nat.isDigit_of_mem_toDigits (by decide) (by decide) hch)
 rw[←e];exact r
theorem E4 (m:Nat):dg m≠ []:=λe=>by
 have h:=toDigits_len_ge 10 m
 rw[List.map_eq_nil_iff.mp e] at h
 exact absurd h (by decide)
theorem Jz (m:Nat):lsS (sI (m:Int))=dg m:=W.KIN.signs_num m
theorem F6 (m:Nat):lsS (sI (-((m+1:Nat):Int)))=45::dg (m+1):=by
 show(Str.ofString (toString (Int.negSucc m))).cps.toList=_
 rw[PyProof.Rows.signs_ofString]
 show("-" ++Nat.repr (m+1)).toList.map Char.toNat=_
 rw[String.toList_append,List.map_append,Nat.toList_repr]
 rfl
theorem Eo:∀(n:Nat) (l:List Nat),l.length=n->NumText.AllDigits l->NumText.digitsVal l<10^n
 |0,l,e,_=>by rw[List.length_eq_zero_iff.mp e];decide
 |n+1,l,e,h=>by
  obtain⟨a,c,rfl⟩:∃a c,l=a++[c]:=⟨l.dropLast,l.getLast (λz=>by rw[z] at e;cases e),(List.dropLast_concat_getLast _).symm⟩
  rw[List.length_append] at e
  have ih:=Eo n a (by simpa using e) λd hd=>h d (List.mem_append_left _ hd)
  have hc:=h c (by simp)
  rw[NumText.digitsVal_snoc,Nat.pow_succ]
  omega
theorem Kc (m:Nat){k:Nat}(hk:0<k):(dg m).length<=k↔m<10^k:=by
 constructor
 ·intro h
  have h1:=Eo _ (dg m) rfl (Jm m)
  rw[show NumText.digitsVal (dg m)=m from W.KIN.val_back m] at h1
  exact Nat.lt_of_lt_of_le h1 (Nat.pow_le_pow_right (by decide) h)
 ·intro h
  have h1:=PyProof.Rows.toString_length_le (v:=(m:Int)) (by omega) hk (by exact_mod_cast h)
  rw[←Jz]
  exact Nat.le_trans (Nat.le_of_eq (show(lsS (sI (m:Int))).length=(sI (m:Int)).length from Array.length_toList)) h1
theorem Z6 (w:Str):w.length=(lsS w).length:=(Array.length_toList (xs:=w.cps)).symm
theorem BI:∀c,c<58->48<=c->Unicode.isDigit c=true:=by decide+kernel
theorem IG {w:Str}(h:NumText.AllDigits (lsS w))(hne:lsS w≠ []):Txt.isdigit w=true:=by
 unfold Txt.isdigit
 rw[Bool.and_eq_true]
 refine⟨?_,?_⟩
 ·rw[Z6]
  have:0<(lsS w).length:=List.length_pos_iff.mpr hne
  simpa using this
 ·rw[Array.all_eq_true']
  intro c hc
  have:=h c (by unfold lsS;exact Array.mem_def.mp hc)
  exact BI c (by omega) this.1
theorem DU {w:Str}(h:NumText.AllDigits (lsS w)):Txt.startswith w ("-":Str)=false:=by
 unfold Txt.startswith
 rw[StrLaws.subAt_eq]
 show(_&&((lsS w).drop 0).take 1== [45])=false
 cases e:lsS w with
 |nil=>simp
 |cons c t=>
  have:=h c (by rw[e];simp)
  have:c≠45:=by omega
  simp[this]
theorem G2 {w:Str}{t:List Nat}(h:lsS w=45::t):Txt.startswith w ("-":Str)=true:=by
 unfold Txt.startswith
 rw[StrLaws.subAt_eq,Z6 w,h]
 show(_&&((lsS w).drop 0).take 1== [45])=true
 rw[h]
 have:(("-":Str).length)=1:=rfl
 rw[this]
 simp
theorem UP {w:Str}{c:Nat}{t:List Nat}(h:lsS w=c::t):lsS (Txt.slice w (some 1) none)=t:=by
 have hl:w.length=t.length+1:=by rw[Z6,h];rfl
 have e1:Builtin.Str.strSliceIndices (some 1) none 1 w.length=Builtin.Str.strSliceIndices (some ((1:Nat):Int)) (some ((w.length:Nat):Int)) 1 w.length:=by
  unfold Builtin.Str.strSliceIndices
  have a1:¬(((w.length:Nat):Int)<0):=by omega
  have a2:max (0:Int) (min (w.length:Int) (w.length:Int))=w.length:=by omega
  simp only[a1,if_false,a2,show((1:Int) > 0)=True from by simp,if_true]
  rfl
 have e2:=StrLaws.sliced_plain w (a:=1) (b:=w.length) (by omega) (Nat.le_refl _)
 have e3:=StrLaws.strSliceIndices_plain (a:=1) (b:=w.length) (len:=w.length) (by omega) (Nat.le_refl _)
 unfold Txt.slice
 rw[if_neg (by rw[e1,e3];simp;omega)]
 show(List.filterMap _ _).toArray.toList=_
 rw[e1,e2,List.toList_toArray]
 show(List.drop 1 (lsS w)).take (w.length-1)=t
 rw[h,hl]
 simp
theorem HF {w:Str}(hl:w.length<=100)(h:∀c∈lsS w,c<100):(reprText w).length<=2000:=by
 have:=StrLaws.reprText_len w λc hc=>Nat.lt_of_lt_of_le (h c hc) (by decide)
 omega
theorem UW {n:Nat}(h:n<10^60):n.log2<1920:=by
 by_cases h0:n=0
 ·subst h0;decide
 ·exact Nat.lt_of_lt_of_le ((Nat.log2_lt h0).mpr (Nat.lt_of_lt_of_le h (show 10^60<=2^200 by decide))) (by decide)
theorem Em {n:Int}{c:Nat}(h:c∈lsS (sI n)):c=45∨48<=c/\c<=57:=by
 rcases Int.eq_nat_or_neg n with⟨m,rfl |rfl⟩
 ·rw[Jz] at h;exact .inr (Jm m c h)
 ·cases m with
  |zero=>
   have h:c∈lsS (sI ((0:Nat):Int)):=h
   rw[Jz] at h;exact .inr (Jm 0 c h)
  |succ m=>
   rw[F6] at h
   rcases List.mem_cons.mp h with e |e
   ·exact .inl e
   ·exact .inr (Jm _ c e)
theorem Kj {n:Int}(h:n.natAbs<10^60):(sI n).length<=61:=by
 rw[Z6]
 rcases Int.eq_nat_or_neg n with⟨m,rfl |rfl⟩
 ·rw[Jz]
  exact Nat.le_trans ((Kc m (k:=60) (by decide)).mpr (by simpa using h)) (by decide)
 ·cases m with
  |zero=>
   show(lsS (sI ((0:Nat):Int))).length<=61
   rw[Jz];exact Nat.le_trans ((Kc 0 (k:=1) (by decide)).mpr (by decide)) (by decide)
  |succ m=>
   rw[F6,List.length_cons]
   have e:(-((m+1:Nat):Int)).natAbs=m+1:=by omega
   rw[e] at h
   exact Nat.succ_le_succ ((Kc (m+1) (k:=60) (by decide)).mpr h)
theorem Gb {w f:Str}{n:Int}(hw:w.length<=100)(hc:∀c∈lsS w,c<100)(hf:(if Txt.startswith w ("-":Str)=true then Txt.slice w (some 1) none else w)=f)(hd:Txt.isdigit f=true)(hn:intText? w=some n)(hs:sI n=w)(hl:n.natAbs<10^60):
  XV w=if f.length<=18 then .ok n else .err ⟨"NoLine",Pay.non⟩:=by
 have hz:w.length<=sizeLine:=sz (by omega)
 have hfl:f.length<=w.length:=by
  rw[←hf]
  split
  ·exact Txt.slice_le _ _ _
  ·exact Nat.le_refl _
 have hr:=HF hw hc
 unfold XV
 simp only[Rs.okb]
 have e1:(if Txt.startswith w ("-":Str)=true then(chk (w.length<=sizeLine) (Rs.ok (Txt.slice w (some 1) none))) else Rs.ok w)=Rs.ok f:=by
  rw[Xj hz, ←hf]
  split<;> rfl
 rw[e1]
 simp only[Rs.okb]
 rw[hd,Xj (show f.length<=sizeLine by omega)]
 simp only[Rs.okb,Bool.not_true]
 rw[GV (c:=decide ((18:Int)<(f.length:Int))) λ_=>rfl]
 simp only[Rs.okb,Bool.false_or]
 by_cases h:f.length<=18
 ·rw[if_pos h,if_neg (by simp;omega)]
  have e2:BY w= .ok n:=by
   unfold BY
   rw[hn]
   exact Xj (by omega)
  rw[e2]
  simp only[Rs.okb]
  rw[Xj (UW hl)]
  simp only[Rs.okb]
  rw[hs]
  simp
 ·rw[if_neg h,if_pos (by simp;omega),Xj hr]
  rfl
theorem GJ {n:Int}(h:n.natAbs<10^60):XV (sI n)=if n.natAbs<10^18 then .ok n else .err ⟨"NoLine",Pay.non⟩:=by
 have hl:=Kj h
 have hc:∀c∈lsS (sI n),c<100:=λc hc=>by rcases Em hc with z |z<;> omega
 have hz:(sI n).length<=4300:=by omega
 have pos:∀m:Nat,lsS (sI n)=dg m->n=(m:Int)->XV (sI n)=if n.natAbs<10^18 then .ok n else .err ⟨"NoLine",Pay.non⟩:=λm e en=>by
  have ha:NumText.AllDigits (lsS (sI n)):=by rw[e];exact Jm m
  have hne:lsS (sI n)≠ []:=by rw[e];exact E4 m
  have ht:=intText_digits ha hne hz
  rw[show NumText.digitsVal (sI n).cps.toList=m from(congrArg NumText.digitsVal e).trans (W.KIN.val_back m), ←en] at ht
  rw[Gb (f:=sI n) (by omega) hc (by rw[DU ha];rfl) (IG ha hne) ht rfl h]
  have e3:(sI n).length<=18↔n.natAbs<10^18:=by
   rw[Z6,e,Kc m (by decide),en];simp
  by_cases z:(sI n).length<=18
  ·rw[if_pos z,if_pos (e3.mp z)]
  ·rw[if_neg z,if_neg λy=>z (e3.mpr y)]
 rcases Int.eq_nat_or_neg n with⟨m,hm |hm⟩
 ·exact pos m (by rw[hm];exact Jz m) hm
 ·cases m with
  |zero=>exact pos 0 (by rw[hm];exact Jz 0) (by rw[hm];rfl)
  |succ m=>
   have e:lsS (sI n)=45::dg (m+1):=by rw[hm];exact F6 m
   have ht:=intText_neg e (Jm _) (E4 _) hz
   rw[show NumText.digitsVal (dg (m+1))=m+1 from W.KIN.val_back (m+1), ←hm] at ht
   have es:lsS (Txt.slice (sI n) (some 1) none)=dg (m+1):=UP e
   rw[Gb (f:=Txt.slice (sI n) (some 1) none) (by omega) hc (by rw[G2 e];rfl) (IG (by rw[es];exact Jm _) (by rw[es];exact E4 _)) ht rfl h]
   have e3:(Txt.slice (sI n) (some 1) none).length<=18↔n.natAbs<10^18:=by
    rw[Z6,es,Kc _ (by decide),hm]
    have:(-((m+1:Nat):Int)).natAbs=m+1:=by omega
    rw[this]
   by_cases z:(Txt.slice (sI n) (some 1) none).length<=18
   ·rw[if_pos z,if_pos (e3.mp z)]
   ·rw[if_neg z,if_neg λy=>z (e3.mpr y)]
theorem Mv {n:Int}:32∉lsS (sI n):=λh=>by rcases Em h with z |z<;> omega
theorem Eh {ws:List Str}{B:Nat}(h:∀w∈ws,w.length<=B):(ws.map (·.length)).sum<=ws.length*B:=StrLaws.sumLen_le ws h
theorem Bq (s:Str)(ws:List Str):(Txt.join s ws).length<=(ws.map (·.length)).sum+ws.length*s.length:=by
 unfold Txt.join
 rw[StrLaws.glued_eq_join]
 exact StrLaws.join_length_le s ws
theorem Uq {ws:List Str}(h:∀w∈ws,32∉lsS w/\lsS w≠ [])(hl:ws.length<=2000)(hb:∀w∈ws,w.length<=100):YR (Txt.join (" ":Str) ws)= .ok ws:=by
 unfold YR
 simp only[Rs.okb]
 cases ws with
 |nil=>
  have e:Txt.join (" ":Str) []=("":Str):=JT (Uf _ _)
  rw[e]
  rfl
 |cons w r=>
  have hj:=Bq (" ":Str) (w::r)
  have hs:=Eh (B:=100) hb
  have l1:(" ":Str).length=1:=rfl
  rw[l1] at hj
  have ne:Txt.join (" ":Str) (w::r)≠("":Str):=λe=>by
   have e2:lsS (Txt.join (" ":Str) (w::r))=[]:=by rw[e];rfl
   rw[Uf] at e2
   have hw:=(h w (by simp)).2
   cases r with
   |nil=>exact hw e2
   |cons v r=>
    have e3:lsS w++lsS (" ":Str)++jnB (lsS (" ":Str)) ((v::r).map lsS)=[]:=e2
    rw[List.append_eq_nil_iff,List.append_eq_nil_iff] at e3
    exact hw e3.1.1
  have c1:(Txt.join (" ":Str) (w::r)).length<=sizeLine:=by
   have:sizeLine=2^24:=by decide
   rw[this];omega
  rw[if_pos (by simpa using ne),G7 (by simp) λw hw=>(h w hw).1]
  exact Xj ⟨by rw[l1];rfl,c1,sz (by omega)⟩
structure Dw (D:List (List Int)×List (Int×Int)):Prop where
 len:D.2.length<=20
 inc:(D.2.map Prod.fst).Pairwise (· < ·)
 pos:∀e∈D.2,1<=e.1/\e.1<10^30/\(e.2=1∨e.2= -1)
 perm:D.1.flatten.Perm ((D.2.map Prod.fst).flatMap λx=>[x,-x])
 few:D.1.length<=5
section
variable {D:List (List Int)×List (Int×Int)}
theorem Dw.of (h:Drawn 20 D):Dw D:=⟨h.le,h.inc,λe he=>by
 obtain⟨a,b,c⟩:=h.pos e he
 exact⟨a,Int.lt_trans b (by decide),c⟩,h.perm,h.few⟩
theorem Dw.mem (h:Dw D){x:Int}(hx:x∈D.1.flatten):∃e∈D.2,x=e.1∨x= -e.1:=by
 obtain⟨n,hn,hx⟩:=List.mem_flatMap.mp (h.perm.mem_iff.mp hx)
 obtain⟨e,he,rfl⟩:=List.mem_map.mp hn
 refine⟨e,he,?_⟩
 simpa using hx
theorem Dw.mem' (h:Dw D){e:Int×Int}(he:e∈D.2):e.1∈D.1.flatten/\ -e.1∈D.1.flatten:=
 ⟨h.perm.mem_iff.mpr (List.mem_flatMap.mpr ⟨e.1,List.mem_map.mpr ⟨e,he,rfl⟩,by simp⟩),h.perm.mem_iff.mpr (List.mem_flatMap.mpr ⟨e.1,List.mem_map.mpr ⟨e,he,rfl⟩,by simp⟩)⟩
theorem Vi:∀{l:List Int},l.Pairwise (· < ·)->(∀x∈l,0<x)->(l.flatMap λx=>[x,-x]).Nodup
 | [],_,_=>List.nodup_nil
 |x::l,hp,h0=>by
  have hp':=List.pairwise_cons.mp hp
  have hx:=h0 x (by simp)
  have ih:=Vi hp'.2 λy hy=>h0 y (List.mem_cons_of_mem _ hy)
  have out:∀y∈l.flatMap (λx=>[x,-x]),y≠x/\y≠ -x:=λy hy=>by
   obtain⟨z,hz,hy⟩:=List.mem_flatMap.mp hy
   have h1:=hp'.1 z hz
   have h2:=h0 z (List.mem_cons_of_mem _ hz)
   rcases List.mem_cons.mp hy with e |e
   ·subst e;constructor<;> omega
   ·rw[List.mem_singleton.mp e];constructor<;> omega
  rw[List.flatMap_cons]
  refine List.nodup_append.mpr ⟨by simp;omega,ih,λa ha b hb e=>?_⟩
  subst e
  have:=out a hb
  simp only[List.mem_cons,List.not_mem_nil,or_false] at ha
  exact ha.elim this.1 this.2
theorem Dw.nodup (h:Dw D):D.1.flatten.Nodup:=h.perm.nodup_iff.mpr (Vi h.inc λx hx=>by
 obtain⟨e,he,rfl⟩:=List.mem_map.mp hx
 have:=(h.pos e he).1;omega)
theorem Mb (l:List Int):(l.flatMap λx=>[x,-x]).length=2*l.length:=by
 induction l with
 |nil=>rfl
 |cons x l ih=>rw[List.flatMap_cons,List.length_append,ih];simp;omega
theorem Dw.flen (h:Dw D):D.1.flatten.length<=40:=by
 rw[h.perm.length_eq,Mb,List.length_map]
 have:=h.len;omega
theorem Dw.sm (h:Dw D):Sm 50 D:=⟨by have:=h.few;omega,by have:=h.len;omega,by have:=h.flen;omega,λe he=>by
 rcases(h.pos e he).2.2 with z |z<;> omega⟩
theorem GB {α δ ρ:Type}{bd:δ->Nat->α->Option ρ}{ap:δ->α->δ}(I:δ->List α->Prop)(hs:∀ah j x w,I ah (x::w)->bd ah j x=none/\I (ap ah x) w):∀(w:List α) (ah:δ) (j:Nat),I ah w->sc bd ap ah j w=none
 | [],_,_,_=>rfl
 |x::w,ah,j,h=>by
  obtain⟨h1,h2⟩:=hs ah j x w h
  unfold sc
  rw[h1]
  exact GB I hs w _ _ h2
theorem Dw.due (h:Dw D):LP D=none:=by
 have hN:=h.nodup
 have bd:∀ah x w t,ah++x::w++t=D.1.flatten->bdX (D.2.map (·.1)) D.1.flatten ah x=false:=λah x w t e=>by
  have hx:x∈D.1.flatten:=by rw[←e];simp
  obtain⟨y,hy,hxy⟩:=h.mem hx
  have hy0:=(h.pos y hy).1
  have hy1:=h.mem' hy
  unfold bdX
  rw[Bool.or_eq_false_iff,Bool.or_eq_false_iff,Bool.or_eq_false_iff]
  refine⟨decide_eq_false (by omega),decide_eq_false λz=>?_,?_,?_⟩
  ·rw[←e,List.append_assoc] at hN
   exact(List.nodup_append.mp hN).2.2 x z x (by simp) rfl
  ·rw[Bool.not_eq_false',decide_eq_true_eq]
   rcases hxy with z |z
   ·rw[z];exact hy1.2
   ·rw[z,Int.neg_neg];exact hy1.1
  ·rw[Bool.not_eq_false',decide_eq_true_eq]
   have:(x.natAbs:Int)=y.1:=by omega
   rw[this];exact List.mem_map.mpr ⟨y,hy,rfl⟩
 have hA:scA (D.2.map (·.1)) D.1.flatten D.1=none:=by
  unfold scA
  refine GB (ap:=λah w=>ah++w) (λah ws=>ah++ws.flatten=D.1.flatten) (λah j w ws e=>⟨?_,by rw[List.append_assoc];simpa using e⟩) _ _ _ (by simp)
  unfold scW
  refine GB (ap:=λah x=>ah++[x]) (λah w=>∃ t,ah++w++t=D.1.flatten) (λah j x w ⟨t,e⟩=>⟨?_,t,by simpa using e⟩) _ _ _ ⟨ws.flatten,by simpa using e⟩
  unfold bW
  rw[bd ah x w t e,if_neg (by decide)]
 have hS:scS D.1.flatten D.2=none:=by
  unfold scS
  refine GB (ap:=λ_ e=>e.1) (λa es=>(∀e∈es,a<e.1/\e∈D.2)/\(es.map Prod.fst).Pairwise (· < ·)) (λa j e es ⟨h1,h2⟩=>⟨?_,?_,?_⟩) _ _ _ ⟨λe he=>⟨by have:=(h.pos e he).1;omega,he⟩,h.inc⟩
  ·obtain⟨g1,g2⟩:=h1 e (by simp)
   have g3:=(h.pos e g2).2.2
   have g4:=(h.mem' g2).1
   unfold bS
   rw[decide_eq_false (by omega),decide_eq_true g3,decide_eq_true g4]
   rfl
  ·intro f hf
   have:=(List.pairwise_cons.mp h2).1 f.1 (List.mem_map.mpr ⟨f,hf,rfl⟩)
   exact⟨this,(h1 f (List.mem_cons_of_mem _ hf)).2⟩
  ·exact(List.pairwise_cons.mp h2).2
 unfold LP mnP
 rw[hA,hS]
 have:=h.len
 have:=h.few
 rw[if_neg (by omega),if_neg (by omega)]
theorem Dw.fault (h:Dw D):ZI D= .ok none:=by rw[BQ h.sm (by decide),h.due]
end
noncomputable def sg (v:Int):Str:=if v=1 then "+" else "-"
noncomputable def pw (d:List (Int×Int))(x:Int):Str:=if x<0 then("u":Str)++sI (-x) else(("o":Str)++sI x)++sg ((XS d x).getD 0)
noncomputable def wd (D:List (List Int)×List (Int×Int)):List Str:=D.1.flatMap λw=>("ring":Str)::w.map (pw D.2)
theorem Jt {α β:Type}{f:List β->α->Rs (List β)}{h:α->List β}(N:Nat):∀(as:List α) (g:List β),(∀g:List β,∀a∈as,g.length+(h a).length<=N->f g a= .ok (g++h a))->g.length+(as.flatMap h).length<=N->forN as g f= .ok (g++as.flatMap h)
 | [],g,_,_=>by rw[List.flatMap_nil,List.append_nil];rfl
 |a::as,g,hf,hl=>by
  rw[List.flatMap_cons,List.length_append] at hl
  show(f g a).bind (λg'=>forN as g' f)=_
  rw[hf g a (by simp) (by omega),Rs.okb,Jt N as (g++h a) (λg b hb=>hf g b (List.mem_cons_of_mem _ hb)) (by rw[List.length_append];omega),List.flatMap_cons,List.append_assoc]
theorem KW {α:Type}{d:List (Int×α)}{k:Int}{v:α}(h:k∉d.map Prod.fst):Zg d k v=d++[(k,v)]:=by
 unfold Zg
 rw[if_neg]
 intro z
 obtain⟨e,he,z⟩:=List.any_eq_true.mp z
 exact h (List.mem_map.mpr ⟨e,he,of_decide_eq_true z⟩)
theorem Vz {α:Type}:∀(ps d:List (Int×α)),((d++ps).map Prod.fst).Nodup->J9 d ps=d++ps
 | [],d,_=>by rw[List.append_nil];rfl
 |p::ps,d,h=>by
  have hp:p.1∉d.map Prod.fst:=λz=>by
   rw[List.map_append,List.map_cons] at h
   exact(List.nodup_append.mp h).2.2 p.1 z p.1 (by simp) rfl
  show J9 (Zg d p.1 p.2) ps=_
  rw[KW hp,Vz ps _ (by simpa using h)]
  simp
section
variable {D:List (List Int)×List (Int×Int)}
theorem Dw.keys (h:Dw D):(D.2.map Prod.fst).Nodup:=h.inc.imp λz=>Int.ne_of_lt z
theorem Dw.get (h:Dw D){x:Int}(hx:x∈D.1.flatten)(h0:0<x):∃v,XS D.2 x=some v/\(x,v)∈D.2:=by
 obtain⟨e,he,z⟩:=h.mem hx
 have:=(h.pos e he).1
 have:x=e.1:=by omega
 exact Kz (by rw[this];exact List.mem_map.mpr ⟨e,he,rfl⟩)
theorem Dw.big (h:Dw D){x:Int}(hx:x∈D.1.flatten):x.natAbs<10^60/\x≠0:=by
 obtain⟨e,he,z⟩:=h.mem hx
 have h1:=(h.pos e he).1
 have h2:=(h.pos e he).2.1
 have h3:e.1.natAbs<10^30:=by
  have:((e.1.natAbs:Nat):Int)<((10^30:Nat):Int):=by
   rw[show((10^30:Nat):Int)=10^30 by decide];omega
  exact_mod_cast this
 have h4:x.natAbs=e.1.natAbs:=by omega
 rw[h4]
 exact⟨Nat.lt_of_lt_of_le h3 (by decide),by omega⟩
theorem Lb (c:Str)(w:Str):(c++w).length=c.length+w.length:=Str.length_append c w
theorem Cg (v:Int):(sg v).length=1:=by unfold sg;split<;> rfl
theorem QO (x:Int):(-x).natAbs=x.natAbs:=Int.natAbs_neg x
theorem Dw.word (h:Dw D){x:Int}(hx:x∈D.1.flatten):X4 x D.2= .ok (pw D.2 x)/\(pw D.2 x).length<=100:=by
 obtain⟨hb,h0⟩:=h.big hx
 have lo:("o":Str).length=1:=rfl
 have lu:("u":Str).length=1:=rfl
 unfold X4 pw
 simp only[Rs.okb]
 by_cases c:x<0
 ·have hl:=Kj (n:= -x) (by rw[QO];exact hb)
  rw[decide_eq_true c,if_pos rfl,if_pos c,Xj (by rw[QO];exact UW hb),Rs.okb,Xj (sz (by omega))]
  exact⟨rfl,by rw[Lb];omega⟩
 ·have hl:=Kj hb
  obtain⟨v,hv,hm⟩:=h.get hx (by omega)
  rw[decide_eq_false c,if_neg (by decide),if_neg c,Xj (UW hb),Rs.okb,Xj (sz (by omega)),Rs.okb]
  have e:ZS D.2 x= .ok v:=by unfold ZS;rw[hv];rfl
  have e2:YQ v= .ok (sg v):=by
   unfold YQ sg
   simp only[Rs.okb]
   by_cases z:v=1
   ·rw[decide_eq_true z,if_pos rfl,if_pos z]
   ·rw[decide_eq_false z,if_neg (by decide),if_neg z]
  rw[e,Rs.okb,e2,YS,Rs.okb,hv,Option.getD_some,Xj (sz (by rw[Lb,Cg];omega))]
  exact⟨rfl,by rw[Lb,Lb,Cg];omega⟩
theorem Dw.in_flat {w:List Int}(hw:w∈D.1){x:Int}(hx:x∈w):x∈D.1.flatten:=List.mem_flatten.mpr ⟨w,hw,hx⟩
theorem Dw.wlen (h:Dw D){w:List Int}(hw:w∈D.1):w.length<=40:=by
 have:=h.sm.row hw
 have h2:=h.flen
 obtain⟨a,b,e⟩:=List.append_of_mem hw
 rw[e,List.flatten_append,List.flatten_cons,List.length_append,List.length_append] at h2;omega
theorem LC (D:List (List Int)×List (Int×Int)):(wd D).length=D.1.length+D.1.flatten.length:=by
 unfold wd
 induction D.1 with
 |nil=>rfl
 |cons w l ih=>rw[List.flatMap_cons,List.length_append,ih];simp;omega
theorem Dw.wdl (h:Dw D):(wd D).length<=45:=by rw[LC];have:=h.few;have:=h.flen;omega
theorem Dw.wshort (h:Dw D):∀w∈wd D,w.length<=100:=λw hw=>by
 obtain⟨l,hl,hw⟩:=List.mem_flatMap.mp hw
 rcases List.mem_cons.mp hw with e |e
 ·rw[e];decide
 ·obtain⟨x,hx,rfl⟩:=List.mem_map.mp e
  exact(h.word (Dw.in_flat hl hx)).2
theorem Dw.fit (h:Dw D):((wd D).map (·.length)).sum+(wd D).length*(" ":Str).length<=16777216:=by
 have h1:=Eh (ws:=wd D) (B:=100) h.wshort
 have h2:=h.wdl
 have l1:(" ":Str).length=1:=rfl
 rw[l1];omega
theorem Dw.show (h:Dw D):Yf D= .ok (Txt.join (" ":Str) (wd D)):=by
 unfold Yf
 simp only[Rs.okb]
 have hp:J9 [] D.2=D.2:=by rw[Vz D.2 [] h.keys];rfl
 rw[hp,Jt 100 (h:=λw=>("ring":Str)::w.map (pw D.2)) D.1 [] (λg w hw hl=>by
  rw[List.length_cons,List.length_map] at hl
  rw[Xj (VU (by omega)),Qc (h:=pw D.2) (sz (by omega)) λx hx=>by rw[(h.word (Dw.in_flat hw hx)).1,YS]]
  simp only[Rs.okb]
  rw[Xj (sz (by simp;omega))]
  simp) (by have:=h.wdl;unfold wd at this;simp only[List.length_nil];omega),Rs.okb]
 exact Xj h.fit
end
section
variable {D:List (List Int)×List (Int×Int)}
theorem IU {v:Int}(h:v=1∨v= -1):(if v<0 then("-":Str) else "+")=sg v:=by
 unfold sg
 rcases h with e |e<;> subst e<;> rfl
theorem Dw.dict (h:Dw D){f:List (Int×Str)->Int×Int->Rs (List (Int×Str))}(hf:∀(d:List (Int×Str)) (e:Int×Int),e∈D.2->d.length<=100->e.1∉d.map Prod.fst->f d e= .ok (d++[(e.1,sg e.2)])):forN D.2 [] f= .ok (D.2.map λe=>(e.1,sg e.2)):=by
 have key:∀(es:List (Int×Int)) (d:List (Int×Str)),(∀e∈es,e∈D.2)->d.length+es.length<=100->(d.map Prod.fst++es.map Prod.fst).Nodup->forN es d f= .ok (d++es.map λe=>(e.1,sg e.2)):=λes=>by
  induction es with
  |nil=>intro d _ _ _;rw[List.map_nil,List.append_nil];rfl
  |cons e es ih=>
   intro d hm hl hn
   rw[List.length_cons] at hl
   show(f d e).bind (λg'=>forN es g' f)=_
   rw[hf d e (hm e (by simp)) (by omega) (λz=>(List.nodup_append.mp hn).2.2 e.1 z e.1 (by simp) rfl),Rs.okb,ih _ (λa ha=>hm a (List.mem_cons_of_mem _ ha)) (by simp;omega) (by simpa using hn)]
   simp
 have:=key D.2 [] (λe he=>he) (by have:=h.len;simp;omega) (by simpa using h.keys)
 simpa using this
theorem Bn {d:List (Int×Int)}{x v:Int}(h:XS d x=some v):XS (d.map λe=>(e.1,sg e.2)) x=some (sg v):=by
 induction d with
 |nil=>cases h
 |cons e d ih=>
  unfold XS at h ih⊢
  rw[List.map_cons,List.find?_cons]
  rw[List.find?_cons] at h
  by_cases z:e.1=x
  ·rw[decide_eq_true z] at h⊢
   cases h;rfl
  ·rw[decide_eq_false z] at h⊢
   exact ih h
theorem Dw.line (h:Dw D):Vx D= .ok (Txt.join (" ":Str) (wd D)):=by
 unfold Vx
 simp only[Rs.okb]
 rw[h.dict (λd e he hl hn=>by
  rw[Xj (VU (by omega)),KW hn]
  have hs:=IU (h.pos e he).2.2
  by_cases z:e.2<0
  ·rw[if_pos z] at hs
   rw[decide_eq_true z,if_pos rfl,Xj (VU (by simp;omega))]
   simp only[Rs.okb]
   rw[←hs]
   unfold Zg
   rw[if_pos (by simp)]
   congr 1
   rw[List.map_append]
   congr 1
   ·conv=>rhs;rw[←List.map_id d]
    refine List.map_congr_left λkv hkv=>?_
    rw[if_neg]
    ·rfl
    ·intro y
     exact hn (List.mem_map.mpr ⟨kv,hkv,y⟩)
   ·simp
  ·rw[if_neg z] at hs
   rw[decide_eq_false z,if_neg (by decide)]
   simp only[Rs.okb]
   rw[hs]),Rs.okb]
 rw[Jt 100 (h:=λw=>("ring":Str)::w.map (pw D.2)) D.1 [] (λg w hw hl=>by
  rw[List.length_cons,List.length_map] at hl
  rw[Xj (VU (by omega))]
  rw[Qy (h:=pw D.2) (sz (by simp;omega)) λg' hg x hx=>?_]
  ·simp only[Rs.okb];simp
  ·have hxf:=Dw.in_flat hw hx
   obtain⟨hb,h0⟩:=h.big hxf
   have hwl:=(h.word hxf).2
   have lo:("o":Str).length=1:=rfl
   have lu:("u":Str).length=1:=rfl
   unfold pw at hwl⊢
   by_cases c:x<0
   ·have hl:=Kj (n:= -x) (by rw[QO];exact hb)
    rw[decide_eq_true c,if_pos rfl,if_pos c,Xj (by rw[QO];exact UW hb),Rs.okb,Xj (sz (by omega)),Rs.okb,Xj hg]
    rfl
   ·have hl:=Kj hb
    obtain⟨v,hv,hm⟩:=h.get hxf (by omega)
    rw[decide_eq_false c,if_neg (by decide),if_neg c,Xj (UW hb),Rs.okb,Xj (sz (by omega)),Rs.okb]
    have e:ZS (D.2.map λe=>(e.1,sg e.2)) x= .ok (sg v):=by unfold ZS;rw[Bn hv];rfl
    rw[e,Rs.okb,Xj (sz (by rw[Lb,Cg];omega)),Rs.okb,Xj hg,hv]
    rfl) (by have:=h.wdl;unfold wd at this;simp only[List.length_nil];omega),Rs.okb]
 exact Xj h.fit
end
theorem CC {α:Type}(g:List α)(a:α):atR (g++[a]) (-(1:Int))= .ok a:=by
 unfold atR atI ixN
 rw[if_neg (by decide),List.length_append,if_pos (by simp;omega)]
 have e:(-(1:Int)+((g.length+ [a].length:Nat):Int)).toNat=g.length:=by simp only[List.length_singleton];omega
 simp only[e]
 simp
theorem Gk {α:Type}(g:List α)(a b:α):Vw (g++[a]) (-(1:Int)) b= .ok (g++[b]):=by
 unfold Vw ixN
 rw[if_neg (by decide),List.length_append,if_pos (by simp;omega)]
 have e:(-(1:Int)+((g.length+ [a].length:Nat):Int)).toNat=g.length:=by simp only[List.length_singleton];omega
 simp only[e]
 simp
theorem KQ (a b:Str):lsS (a++b)=lsS a++lsS b:=by
 unfold lsS
 rw[Str.cps_append];simp
theorem JU {w s:Str}{c k:Nat}{t:List Nat}(h:lsS w=c::t)(hs:lsS s=[k]):Txt.startswith w s=decide (c=k):=by
 have h1:s.length=1:=by rw[Z6,hs];rfl
 have h2:w.length=t.length+1:=by rw[Z6,h];rfl
 unfold Txt.startswith
 rw[StrLaws.subAt_eq,h1,h2]
 show(_&&((lsS w).drop 0).take 1==lsS s)=_
 rw[h,hs]
 by_cases z:c=k<;> simp[z]
theorem K1 {w:Str}{i j:Option Int}{a b:Nat}(hab:a<=b)(hb:b<=w.length)(hne:b-a≠w.length)(hi:Builtin.Str.strSliceIndices i j 1 w.length=Builtin.Str.strSliceIndices (some (a:Int)) (some (b:Int)) 1 w.length):lsS (Txt.slice w i j)=((lsS w).drop a).take (b-a):=by
 have e2:=StrLaws.sliced_plain w hab hb
 have e3:=StrLaws.strSliceIndices_plain hab hb
 unfold Txt.slice
 rw[if_neg (by rw[hi,e3];simpa using hne)]
 show(List.filterMap _ _).toArray.toList=_
 rw[hi,e2,List.toList_toArray]
 rfl
theorem Fo {w:Str}{c e:Nat}{t:List Nat}(h:lsS w=c::(t++[e])):lsS (Txt.slice w (some 1) (some (-1)))=t:=by
 have hl:w.length=t.length+2:=by rw[Z6,h];simp
 rw[K1 (a:=1) (b:=w.length-1) (by omega) (by omega) (by omega),h,hl]
 ·simp
 ·unfold Builtin.Str.strSliceIndices
  have a1:(-1:Int)<0:=by decide
  have a2:¬(((w.length-1:Nat):Int)<0):=by omega
  have a3:(-1:Int)+(w.length:Int)=((w.length-1:Nat):Int):=by omega
  simp only[a1,a2,a3,if_true,if_false]
  rfl
theorem FR {w:Str}{c e:Nat}{t:List Nat}(h:lsS w=c::(t++[e])):lsS (Txt.slice w (some (-1)) none)=[e]:=by
 have hl:w.length=t.length+2:=by rw[Z6,h];simp
 rw[K1 (a:=w.length-1) (b:=w.length) (by omega) (by omega) (by omega),h,hl]
 ·rw[show t.length+2-1=(c::t).length by simp,show c::(t++[e])=(c::t)++[e] from rfl,List.drop_left]
  simp
 ·unfold Builtin.Str.strSliceIndices
  have a1:(-1:Int)<0:=by decide
  have a2:¬(((w.length-1:Nat):Int)<0):=by omega
  have a4:¬(((w.length:Nat):Int)<0):=by omega
  have a3:(-1:Int)+(w.length:Int)=((w.length-1:Nat):Int):=by omega
  have a5:max (0:Int) (min (w.length:Int) (w.length:Int))=w.length:=by omega
  simp only[a1,a2,a3,a4,a5,if_true,if_false,show((1:Int) > 0)=True from by simp]
theorem Mf (v:Int):∃k,lsS (sg v)=[k]:=by unfold sg;split;exact⟨43,rfl⟩;exact⟨45,rfl⟩
theorem US {v:Int}(h:v=1∨v= -1):Yw (sg v)= .ok v:=by
 rcases h with e |e<;> subst e
 ·unfold Yw
  simp only[Rs.okb]
  rw[if_neg (by decide+kernel)]
  rfl
 ·unfold Yw
  simp only[Rs.okb]
  rw[if_neg (by decide+kernel)]
  rfl
noncomputable abbrev NL:Exc:=⟨"NoLine",Pay.non⟩
noncomputable abbrev St2:=List (List Int)×List (Int×Int)
noncomputable def GI (x:Int):Bool:=decide (x.natAbs<10^18)
noncomputable def stp (D:St2)(d:List (Int×Int))(x:Int):List (Int×Int):=if x<0 then d else Zg d x ((XS D.2 x).getD 0)
section
variable {D:St2}{f:St2->Str->Rs St2}(hr:∀(ws:List (List Int)) d,ws.length<=100->f (ws,d) ("ring":Str)= .ok (ws++[[]],d))
 (hx:∀(ws:List (List Int)) (w:List Int) d x,x∈D.1.flatten->w.length<=100->d.length<=100->f (ws++[w],d) (pw D.2 x)=if GI x=true then .ok (ws++[w++[x]],stp D d x) else .err NL)
theorem CB (D:St2)(d:List (Int×Int))(x:Int):(stp D d x).length<=d.length+1:=by
 unfold stp Zg
 split
 ·omega
 ·split<;> simp
include hx in
theorem UU (ws:List (List Int))(Y7:List Str):∀(w a:List Int) (d:List (Int×Int)),(∀x∈w,x∈D.1.flatten)->a.length+w.length<=100->d.length+w.length<=100->forN (w.map (pw D.2)++Y7) (ws++[a],d) f=if w.all GI=true then forN Y7 (ws++[a++w],w.foldl (stp D) d) f else .err NL
 | [],a,d,_,_,_=>by rw[List.append_nil];rfl
 |x::w,a,d,hm,hl,hd=>by
  rw[List.length_cons] at hl hd
  show(f (ws++[a],d) (pw D.2 x)).bind (λg'=>forN (w.map (pw D.2)++Y7) g' f)=_
  rw[hx ws a d x (hm x (by simp)) (by omega) (by omega),List.all_cons]
  cases GI x with
  |false=>rfl
  |true=>
   have hs:=CB D d x
   rw[if_pos rfl,Rs.okb,UU ws Y7 w (a++[x]) (stp D d x) (λy hy=>hm y (List.mem_cons_of_mem _ hy)) (by simp;omega) (by omega),Bool.true_and]
   simp
include hr hx in
theorem Kk:∀(rs ws:List (List Int)) (d:List (Int×Int)),(∀x∈rs.flatten,x∈D.1.flatten)->ws.length+rs.length<=100->rs.flatten.length<=100->d.length+rs.flatten.length<=100->forN (rs.flatMap λw=>("ring":Str)::w.map (pw D.2)) (ws,d) f=if rs.flatten.all GI=true then .ok (ws++rs,rs.flatten.foldl (stp D) d) else .err NL
 | [],ws,d,_,_,_,_=>by simp[forN]
 |w::rs,ws,d,hm,hl,h1,hd=>by
  rw[List.flatten_cons,List.length_append] at h1 hd
  rw[List.length_cons] at hl
  rw[List.flatMap_cons]
  show(f (ws,d) ("ring":Str)).bind (λg'=>forN (w.map (pw D.2)++_) g' f)=_
  rw[hr ws d (by omega),Rs.okb,UU hx ws _ w [] d (λx hx=>hm x (by rw[List.flatten_cons];exact List.mem_append_left _ hx)) (by simp;omega) (by omega),List.nil_append,List.flatten_cons,List.all_append]
  have hf:(w.foldl (stp D) d).length<=d.length+w.length:=by
   clear hm hl h1 hd
   induction w generalizing d with
   |nil=>simp
   |cons x w ih=>
    rw[List.foldl_cons,List.length_cons]
    have:=CB D d x
    have:=ih (stp D d x)
    omega
  cases w.all GI with
  |false=>rfl
  |true=>
   rw[if_pos rfl,Kk rs (ws++[w]) _ (λx hx=>hm x (by rw[List.flatten_cons];exact List.mem_append_right _ hx)) (by simp;omega) (by omega) (by omega),Bool.true_and,List.foldl_append]
   simp
end
section
variable {D:St2}
theorem Dw.lsO (h:Dw D){x:Int}(hx:x∈D.1.flatten)(h0:0<x):∃v k,XS D.2 x=some v/\(v=1∨v= -1)/\lsS (sg v)=[k]/\lsS (pw D.2 x)=111::(lsS (sI x)++[k]):=by
 obtain⟨v,hv,hm⟩:=h.get hx h0
 obtain⟨k,hk⟩:=Mf v
 refine⟨v,k,hv,(h.pos _ hm).2.2,hk,?_⟩
 unfold pw
 rw[if_neg (by omega),hv,Option.getD_some,KQ,KQ,hk]
 rfl
theorem lsU {d:List (Int×Int)}{x:Int}(h0:x<0):lsS (pw d x)=117::lsS (sI (-x)):=by
 unfold pw
 rw[if_pos h0,KQ]
 rfl
theorem DC {w:Str}{c:Nat}{t:List Nat}(h:lsS w=c::t)(hc:c≠114):w≠("ring":Str):=λe=>by
 rw[e] at h
 have h2:lsS ("ring":Str)=[114,105,110,103]:=rfl
 rw[h2] at h
 exact hc (List.cons.inj h).1.symm
theorem Dw.read (h:Dw D):X5 (Txt.join (" ":Str) (wd D))=if D.1.flatten.all GI=true then
  Rs.bind (chk ((D.1.flatten.foldl (stp D) []).length<64/\(D.1.flatten.foldl (stp D) []).Nodup) (Rs.ok (Q4 ltP (D.1.flatten.foldl (stp D) [])))) (λx93=>Rs.bind (noE (ZI (D.1,x93))) λx96=>if x96.isSome=true then .err NL else .ok (D.1,x93)) else .err NL:=by
 have hfl:=h.flen
 have hfew:=h.few
 have hw:YR (Txt.join (" ":Str) (wd D))= .ok (wd D):=Uq (λw hw=>by
  obtain⟨l,hl,hw⟩:=List.mem_flatMap.mp hw
  rcases List.mem_cons.mp hw with e |e
  ·have e2:lsS ("ring":Str)=[114,105,110,103]:=rfl
   rw[e,e2];exact⟨by decide,by decide⟩
  ·obtain⟨x,hx,rfl⟩:=List.mem_map.mp e
   have hxf:=Dw.in_flat hl hx
   by_cases c:x<0
   ·rw[lsU c]
    exact⟨λz=>by rcases List.mem_cons.mp z with z |z;exact absurd z (by decide);exact Mv z,by simp⟩
   ·obtain⟨v,k,_,_,hk,hls⟩:=h.lsO hxf (by have:=(h.big hxf).2;omega)
    rw[hls]
    refine⟨λz=>?_,by simp⟩
    rcases List.mem_cons.mp z with z |z
    ·exact absurd z (by decide)
    ·rcases List.mem_append.mp z with z |z
     ·exact Mv z
     ·have:k=43∨k=45:=by
       unfold sg at hk
       split at hk
       ·exact .inl (List.cons.inj hk).1.symm
       ·exact .inr (List.cons.inj hk).1.symm
      rw[List.mem_singleton] at z
      omega) (by have:=h.wdl;omega) h.wshort
 unfold X5
 simp only[Rs.okb]
 rw[hw,YS,Rs.okb]
 refine(congrArg (λm=>Rs.bind m _) (Kk (D:=D) ?hr ?hx D.1 [] [] (λx hx=>hx) (by rw[List.length_nil];omega) (by omega) (by rw[List.length_nil];omega))).trans ?_
 case hr=>
  intro ws d hl
  rw[decide_eq_true rfl,if_pos rfl,Xj (VU (show ws.length<=100000 by omega))]
  rfl
 case hx=>
  intro ws w d x hxf hl hd
  have hwl:=h.wshort
  obtain⟨hb,h0⟩:=h.big hxf
  have hne:(ws++[w]:List (List Int))≠ []:=by simp
  have hpl:=(h.word hxf).2
  by_cases c:x<0
  ·have hls:=lsU (d:=D.2) c
   rw[decide_eq_false (DC hls (by decide)),if_neg (by decide),decide_eq_false hne,if_neg (by decide),JU hls (s:=("o":Str)) (k:=111) rfl,if_neg (by decide),JU hls (s:=("u":Str)) (k:=117) rfl,if_pos (by decide),CC,Rs.okb,Xj (sz (by omega)),Rs.okb]
   have e:Txt.slice (pw D.2 x) (some 1) none=sI (-x):=JT (UP hls)
   rw[e,GJ (by rw[QO];exact hb),QO]
   unfold GI stp
   by_cases z:x.natAbs<10^18
   ·rw[if_pos z,decide_eq_true z,if_pos rfl,if_pos c]
    simp only[Rs.okb]
    rw[Xj (VU (by omega)),Gk,Int.neg_neg]
    rfl
   ·rw[if_neg z,decide_eq_false z]
    rfl
  ·obtain⟨v,k,hv,hv1,hk,hls⟩:=h.lsO hxf (by omega)
   rw[decide_eq_false (DC hls (by decide)),if_neg (by decide),decide_eq_false hne,if_neg (by decide),JU hls (s:=("o":Str)) (k:=111) rfl,if_pos (by decide),Xj (sz (by omega)),Rs.okb,Xj (sz (by omega))]
   have e:Txt.slice (pw D.2 x) (some 1) (some (-1))=sI x:=JT (Fo hls)
   have e2:Txt.slice (pw D.2 x) (some (-1)) none=sg v:=JT ((FR hls).trans hk.symm)
   rw[e,e2,GJ hb]
   unfold GI stp
   by_cases z:x.natAbs<10^18
   ·rw[if_pos z,decide_eq_true z,if_pos rfl,if_neg c,hv]
    simp only[Rs.okb]
    rw[US hv1]
    simp only[Rs.okb]
    rw[Xj (VU (show d.length<=100000 by omega)),CC]
    simp only[Rs.okb]
    rw[Xj (VU (by omega)),Gk]
    rfl
   ·rw[if_neg z,decide_eq_false z]
    rfl
 cases D.1.flatten.all GI with
 |false=>rfl
 |true=>
  rw[if_pos rfl,if_pos rfl,List.nil_append]
  show Rs.bind (Rs.bind (chk _ _) _) _=_
  unfold chk
  split
  ·simp only[Rs.okb]
   cases ZI (D.1,Q4 ltP (D.1.flatten.foldl (stp D) [])) with
   |ok a=>rfl
   |bad=>rfl
   |err x=>rfl
  ·rfl
end
theorem JN {D:St2}:∀(l:List Int) (d:List (Int×Int)),(∀x∈l,x≠0)->(d.map Prod.fst++l.filter λx=>decide (0<x)).Nodup->l.foldl (stp D) d=d++(l.filter λx=>decide (0<x)).map λx=>(x,(XS D.2 x).getD 0)
 | [],d,_,_=>by simp
 |x::l,d,h0,hn=>by
  have hx:=h0 x (by simp)
  rw[List.foldl_cons]
  by_cases c:x<0
  ·have e1:stp D d x=d:=by unfold stp;rw[if_pos c]
   have e2:(x::l).filter (λx=>decide (0<x))=l.filter λx=>decide (0<x):=by rw[List.filter_cons,if_neg (by simp;omega)]
   rw[e1,e2,JN l d (λy hy=>h0 y (List.mem_cons_of_mem _ hy)) (by rw[e2] at hn;exact hn)]
  ·have e2:(x::l).filter (λx=>decide (0<x))=x::l.filter λx=>decide (0<x):=by rw[List.filter_cons,if_pos (by simp;omega)]
   rw[e2] at hn
   have hk:x∉d.map Prod.fst:=λz=>(List.nodup_append.mp hn).2.2 x z x (by simp) rfl
   have e1:stp D d x=d++[(x,(XS D.2 x).getD 0)]:=by unfold stp;rw[if_neg c,KW hk]
   rw[e1,e2,JN l _ (λy hy=>h0 y (List.mem_cons_of_mem _ hy)) (by simpa using hn)]
   simp
theorem Gq:∀{d:List (Int×Int)},(d.map Prod.fst).Nodup->∀{e},e∈d->XS d e.1=some e.2
 | [],_,_,h=>nomatch h
 |a::d,hn,e,h=>by
  rw[List.map_cons,List.nodup_cons] at hn
  unfold XS
  rw[List.find?_cons]
  rcases List.mem_cons.mp h with z |z
  ·rw[z,decide_eq_true rfl];rfl
  ·have:a.1≠e.1:=λy=>hn.1 (y▸List.mem_map.mpr ⟨e,z,rfl⟩)
   rw[decide_eq_false this]
   exact Gq hn.2 z
theorem UM:∀{l:List Int},(∀x∈l,0<x)->(l.flatMap λx=>[x,-x]).filter (λx=>decide (0<x))=l
 | [],_=>rfl
 |x::l,h=>by
  have hx:=h x (by simp)
  rw[List.flatMap_cons,List.filter_append,UM λy hy=>h y (List.mem_cons_of_mem _ hy)]
  rw[List.filter_cons,if_pos (by simpa using hx),List.filter_cons,if_neg (by simp;omega)]
  rfl
section
variable {D:St2}
theorem Dw.dperm (h:Dw D):D.2.Perm (D.1.flatten.foldl (stp D) []):=by
 have hpos:∀x∈D.2.map Prod.fst,0<x:=λx hx=>by
  obtain⟨e,he,rfl⟩:=List.mem_map.mp hx
  have:=(h.pos e he).1;omega
 have hp:(D.1.flatten.filter λx=>decide (0<x)).Perm (D.2.map Prod.fst):=by
  have:=h.perm.filter λx=>decide (0<x)
  rwa [UM hpos] at this
 rw[JN D.1.flatten [] (λx hx=>(h.big hx).2) (by rw[List.map_nil,List.nil_append];exact List.Pairwise.filter _ h.nodup),List.nil_append]
 refine List.Perm.trans (List.Perm.of_eq ?_) (hp.map λx=>(x,(XS D.2 x).getD 0)).symm
 rw[List.map_map]
 conv=>lhs;rw[←List.map_id D.2]
 refine List.map_congr_left λe he=>?_
 show e=(e.1,(XS D.2 e.1).getD 0)
 rw[Gq h.keys he]
 rfl
theorem Dw.nd2 (h:Dw D):D.2.Nodup:=List.Pairwise.of_map Prod.fst (λa b z e=>z (e▸rfl)) h.keys
theorem Dw.sorted (h:Dw D):Q4 ltP (D.1.flatten.foldl (stp D) [])=D.2:=by
 refine(Go B1 (h.dperm.nodup_iff.mp h.nd2) h.dperm ?_).symm
 refine(List.pairwise_map.mp h.inc).imp fun {a b} z=>?_
 unfold ltP
 rw[if_neg (by omega),decide_eq_true_eq]
 exact z
theorem Dw.read2 (h:Dw D):VM (Txt.join (" ":Str) (wd D))= .ok (if D.1.flatten.all GI=true then .inr ("yes",D) else .inl ("no",true)):=by
 have e:X5 (Txt.join (" ":Str) (wd D))=if D.1.flatten.all GI=true then .ok D else .err NL:=by
  rw[h.read,Xj ⟨by rw[←h.dperm.length_eq];have:=h.len;omega,h.dperm.nodup_iff.mp h.nd2⟩,Rs.okb,h.sorted,h.fault,YS,Rs.okb]
  rfl
 unfold VM
 simp only[Rs.okb]
 rw[e]
 split
 ·rfl
 ·show chk (cau XL "NoLine" "PlaitError" =true) _=_
  rw[Xj (by decide+kernel)]
  rfl
theorem Dw.small (h:Dw D):D.1.flatten.all GI=D.2.all λe=>decide (e.1<10^18):=by
 rw[Bool.eq_iff_iff,List.all_eq_true,List.all_eq_true]
 constructor
 ·intro z e he
  have:=z _ (h.mem' he).1
  have h1:=(h.pos e he).1
  unfold GI at this
  have:=of_decide_eq_true this
  exact decide_eq_true (by omega)
 ·intro z x hx
  obtain⟨e,he,y⟩:=h.mem hx
  have h1:=(h.pos e he).1
  have:=of_decide_eq_true (z e he)
  unfold GI
  exact decide_eq_true (by omega)
theorem V5 (x:Int):YO x= .ok true:=rfl
theorem Uk (D:St2):YC D= .ok true:=by
 unfold YC
 simp only[Rs.okb]
 simp only[decide_true,Bool.not_true]
 rw[show orR (Rs.ok false) (Rs.ok false)= .ok false from rfl,Rs.okb,if_neg (by decide),Rs.okb,if_neg (by decide)]
 rw[Je (λw _=>by
  rw[if_neg (by decide),Je (λa _=>by rw[V5];rfl),Rs.okb,FE]),Rs.okb,Gx]
 rw[Je (λe _=>by
  rw[show orR (Rs.ok false) (Rs.ok (!decide ((([e.1,e.2]:List Int).length:Int)=2)))= .ok false from rfl,Rs.okb,if_neg (by decide),V5,V5];rfl),Rs.okb,Gx]
theorem Dw.asked (h:Dw D):ZT D= .ok true:=by
 have hfew:=h.few
 have hlen:=h.len
 have hc:VG D= .ok D:=by
  unfold VG
  simp only[Rs.okb]
  rw[Qc (h:=λr=>r) (sz (by omega)) λ_ _=>rfl,List.map_id',Rs.okb]
 unfold ZT
 simp only[Rs.okb]
 rw[hc,YS,Rs.okb,h.show,YS,Rs.okb,h.line,YS,Rs.okb,h.read2,YS]
 simp only[decide_true,Bool.not_true,Rs.okb]
 rw[show orR (Rs.ok false) (Rs.ok false)=Rs.ok false from rfl,Rs.okb,if_neg (by decide),if_neg (by decide)]
 rw[Hg (p:=λe:Int×Int=>decide ((10:Int)^18<=e.1)) (h:=λe=>e.1) (sz (by omega)) (λa _=>by rw[Vk (by decide) (by decide) (by decide) (by decide),Rs.okb];rfl) (λ_ _ _=>rfl),Rs.okb,Rs.okb,Rs.okb,h.small]
 cases z:D.2.all λe=>decide (e.1<10^18) with
 |false=>
  have:∃e∈D.2,¬e.1<10^18:=by simpa using z
  obtain⟨e,he,hz⟩:=this
  have hm:e∈D.2.filter λe=>decide ((10:Int)^18<=e.1):=List.mem_filter.mpr ⟨he,decide_eq_true (by omega)⟩
  have:0<(D.2.filter λe=>decide ((10:Int)^18<=e.1)).length:=List.length_pos_of_mem hm
  rw[if_pos (by rw[List.length_map];simp only[decide_eq_true_eq];omega)]
  simp
 |true=>
  have hf:D.2.filter (λe=>decide ((10:Int)^18<=e.1))=[]:=by
   rw[List.filter_eq_nil_iff]
   intro e he
   have:=of_decide_eq_true (List.all_eq_true.mp z e he)
   simp only[decide_eq_true_eq]
   omega
  have e:getR (Sum.inr (("yes":Str),D):(Str×Bool) ⊕ (Str×St2))= .ok (("yes":Str),D):=rfl
  rw[hf,if_neg (by decide),if_pos rfl,e]
  simp only[Rs.okb]
  rw[Uk,YS]
  simp only[Rs.okb]
  rw[show EL (Sum.inr (("yes":Str),D):(Str×Bool) ⊕ (Str×St2))=("yes":Str) from rfl]
  simp only[decide_true,Bool.not_true,Rs.okb]
  rw[show orR (Rs.ok false) (Rs.ok false)=Rs.ok false from rfl,Rs.okb,if_neg (by decide),if_neg (by decide)]
  rw[Xj (λr hr=>VU (Nat.le_trans (h.wlen hr) (by decide))),Xj (VU (show D.2.length<=100000 by omega)),Qc (h:=λr=>r++[1]) (sz (by omega)) λr hr=>by
   rw[Xj (sz (by simp)),Rs.okb]
   have:=h.wlen hr
   exact Xj (sz (by simp;omega)),Rs.okb]
  simp
end
noncomputable def fx (far x:Int):Int:=if x<0 then x-far else x+far
noncomputable def fw (far:Int)(D:St2):St2:=(D.1.map (·.map (fx far)),D.2.map λe=>(e.1+far,e.2))
section
variable {D:St2}
theorem CL {far:Int}:∀{l:List Int},(∀x∈l,0<x)->(l.flatMap λx=>[x,-x]).map (fx far)=(l.map (· +far)).flatMap λx=>[x,-x]
 | [],_=>rfl
 |x::l,h=>by
  have hx:=h x (by simp)
  rw[List.flatMap_cons,List.map_append,CL λy hy=>h y (List.mem_cons_of_mem _ hy)]
  have e1:fx far x=x+far:=by unfold fx;rw[if_neg (by omega)]
  have e2:fx far (-x)= -(x+far):=by unfold fx;rw[if_pos (by omega)];omega
  show[fx far x,fx far (-x)]++_=[x+far,-(x+far)]++_
  rw[e1,e2]
  rfl
theorem Dw.far (h:Dw D)(hb:∀e∈D.2,e.1<2^50){far:Int}(h0:0<=far)(h1:far<2^62):Dw (fw far D) where
 len:=by show(D.2.map _).length<=20;rw[List.length_map];exact h.len
 inc:=by
  show((D.2.map λe=>(e.1+far,e.2)).map Prod.fst).Pairwise (· < ·)
  rw[List.map_map,List.pairwise_map]
  refine(List.pairwise_map.mp h.inc).imp fun {a b} z=>?_
  show a.1+far<b.1+far
  omega
 pos:=λe he=>by
  obtain⟨d,hd,rfl⟩:=List.mem_map.mp he
  have p:=h.pos d hd
  have q:=hb d hd
  refine⟨?_,?_,p.2.2⟩
  ·show 1<=d.1+far;omega
  ·show d.1+far<10^30
   exact Int.lt_trans (show d.1+far<2^63 by omega) (by decide)
 perm:=by
  show(D.1.map (·.map (fx far))).flatten.Perm (((D.2.map λe=>(e.1+far,e.2)).map Prod.fst).flatMap λx=>[x,-x])
  rw[←List.map_flatten]
  have:=h.perm.map (fx far)
  rw[CL (λx hx=>by
   obtain⟨e,he,rfl⟩:=List.mem_map.mp hx
   have:=(h.pos e he).1;omega)] at this
  have e:(D.2.map λe=>(e.1+far,e.2)).map Prod.fst=(D.2.map Prod.fst).map (· +far):=by rw[List.map_map,List.map_map];rfl
  rw[e];exact this
 few:=by show(D.1.map _).length<=5;rw[List.length_map];exact h.few
theorem Dw.farther (h:Dw D)(far:Int):Zv D far= .ok (fw far D):=by
 have hfew:=h.few
 have hlen:=h.len
 unfold Zv
 simp only[Rs.okb]
 rw[Qy (h:=λw=>w.map (fx far)) (sz (by simp;omega)) λg hg w hw=>?_,Rs.okb,Qc (h:=λe:Int×Int=>(e.1+far,e.2)) (sz (by omega)) λ_ _=>rfl,Rs.okb]
 ·rfl
 ·have hwl:=h.wlen hw
  rw[Qy (h:=fx far) (sz (by simp;omega)) λg' hg' x hx=>?_,Rs.okb,Xj hg]
  ·rfl
  ·unfold fx
   by_cases c:x<0
   ·rw[decide_eq_true c,if_pos rfl,if_pos c,Xj hg'];rfl
   ·rw[decide_eq_false c,if_neg (by decide),if_neg c,Xj hg'];rfl
end
theorem BB (ns:List Int)(_:ns.length<=63):KY ns= .ok true:=by
 refine Ok.eq ?_
 unfold KY
 simp only[Rs.okb]
 refine Ok.bind (Ok.noE (BW ns (by decide) (most:=20) (by decide))) λD hD=>?_
 have h:=Dw.of hD
 have hb:∀e∈D.2,e.1<2^50:=λe he=>(hD.pos e he).2.1
 rw[Xj (show([4,3]:List Int).length<=sizeLine from sz (by simp)),Rs.okb]
 refine Ok.bind (Ok.noE (Ej ns (by decide) [4,3] (by simp) λx hx=>?_)) λr hr=>?_
 ·simp only[List.mem_cons,List.not_mem_nil,or_false] at hx
  rcases hx with rfl |rfl<;> decide
 obtain⟨m0,m1,er⟩:∃m0 m1,r=[m0,m1]:=by
  have l:=hr.1
  match r,l with
  | [m0,m1],_=>exact⟨m0,m1,rfl⟩
 have b0:=hr.2 0 m0 4 (by rw[er];rfl) rfl
 have b1:=hr.2 1 m1 3 (by rw[er];rfl) rfl
 subst er
 refine Ok.bind (R:=λg=>1<=g/\g<2^50) (Ok.forN (λ_ g=>1<=g/\g<2^50) ⟨by decide,by decide⟩ λi e g he _=>⟨_,rfl,(hD.pos e (List.mem_of_getElem? he)).1,hb e (List.mem_of_getElem? he)⟩) λg hg=>?_
 rw[Vk (by decide) (by decide) (by decide) (by decide),Vk (by decide) (by decide) (by decide) (by decide)]
 simp only[Rs.okb]
 rw[show atR [m0,m1] 0= .ok m0 from rfl,show atR [m0,m1] 1= .ok m1 from rfl]
 simp only[Rs.okb]
 rw[Xj (sz (by simp)),Rs.okb]
 refine Ok.bind (R:=λfar=>0<=far/\far<2^62) ?_ λfar ⟨f0,f1⟩=>?_
 ·have hm:m0=0∨m0=1∨m0=2∨m0=3:=by omega
  rcases hm with e |e |e |e<;> subst e
  ·exact⟨_,rfl,by decide,by decide⟩
  ·exact⟨_,rfl,by decide,by decide⟩
  ·exact⟨_,rfl,by decide,by decide⟩
  ·refine⟨_,rfl,?_,?_⟩
   ·show(0:Int)<=10^18-g-1+m1;omega
   ·show(10:Int)^18-g-1+m1<2^62;omega
 ·have hf:=h.far hb f0 f1
  rw[h.farther far,YS,Rs.okb,hf.asked,h.asked,YS]
  exact⟨true,rfl,rfl⟩
noncomputable def top (i:Nat):Stmt:=PySem.Challenge.pw_plait_k91_drawings_as_lines.main.body.getD i (.Pass ⟨0,0,0,0⟩)
noncomputable abbrev KG:Stmt:=top 8
noncomputable abbrev ZE:Stmt:=top 9
noncomputable abbrev Zp:Stmt:=top 10
noncomputable abbrev ZU:Stmt:=top 11
noncomputable abbrev ZQ:Stmt:=top 12
noncomputable abbrev YU:Stmt:=top 15
noncomputable abbrev Zu:Stmt:=top 16
noncomputable abbrev Qd:Stmt:=top 17
noncomputable abbrev QQ:Stmt:=top 18
noncomputable abbrev ZH:Stmt:=top 19
noncomputable abbrev Zt:Stmt:=top 20
noncomputable abbrev Qb:Stmt:=top 21
noncomputable abbrev CD:Stmt:=top 23
noncomputable abbrev HH:Stmt:=top 24
noncomputable abbrev Ia:Stmt:=top 25
noncomputable abbrev KM:Stmt:=top 26
noncomputable abbrev BK:Stmt:=top 27
noncomputable abbrev JQ:Stmt:=top 28
noncomputable abbrev V1:Stmt:=top 29
noncomputable abbrev Gf:Stmt:=top 30
noncomputable abbrev QL:Stmt:=top 31
noncomputable abbrev ZR:Stmt:=top 32
noncomputable abbrev Dv:Stmt:=top 33
noncomputable abbrev Qq:Stmt:=top 34
noncomputable abbrev DA:Stmt:=top 35
noncomputable abbrev JD:Stmt:=top 36
noncomputable abbrev V7:Stmt:=top 37
structure Blt (mg:Str->Option Value):Prop where
 b_abs:mg "abs" =none
 b_bool:mg "bool" =none
 b_dict:mg "dict" =none
 b_enumerate:mg "enumerate" =none
 b_int:mg "int" =none
 b_isinstance:mg "isinstance" =none
 b_len:mg "len" =none
 b_list:mg "list" =none
 b_max:mg "max" =none
 b_min:mg "min" =none
 b_range:mg "range" =none
 b_sorted:mg "sorted" =none
 b_str:mg "str" =none
 b_tuple:mg "tuple" =none
 c_MOST_CROSSINGS:∃u,mg "MOST_CROSSINGS" =some u/\XW (.int 40) u
 c_MOST_FIGURES:∃u,mg "MOST_FIGURES" =some u/\XW (.int 18) u
 c_MOST_WALKS:∃u,mg "MOST_WALKS" =some u/\XW (.int 12) u
section
variable {P:Program}{w:World}{K:PySem.W.Frag}{mg:Str->Option Value}{base:Heap}
theorem YV:FnScope ["walks","standing","walk","passage"] ["walks"] (Xi ZE):=⟨rfl,rfl,rfl,by decide+kernel,rfl,by decide+kernel,by decide+kernel⟩
theorem Va (D:Def K mg "passages_of" ZE ["walks"])(Y:Ecs XL K mg)(Z:Blt mg):Fn P w K mg base 1 "passages_of" ["walks"] (sp1 (rV (rV Xb)) (oD Xl) Ys K):=by
 refine Zi D YV (λvs H Q E h=>?_) (λf cdv A outer s H vs Q E hr h=>?_)
 ·obtain⟨v_0,a_0,b,rfl,_⟩:=h;rfl
 obtain⟨v_0,a_0,b,rfl,h_0,hm,q⟩:=h
 have hu:=hu8 hr
 have hu1:=YT hr
 refine⟨_,(Xa (Xm (i:=1) YV.nd rfl (Or.inl rfl) Qx)
  (Xa (Ye PassesOwn.never rfl (XM (K:=K) rfl (pv 0)) (Xv (i:=2) YV.nd rfl (Or.inl rfl))
   (Xa (Ye PassesOwn.never rfl (XM (K:=K) rfl (pv 2)) (Xv (i:=3) YV.nd rfl (Or.inl rfl))
    (Xa (QJ hu1 (pv 1) (pv 3) ZP rfl)
    Xe))
   Xe))
  (Xa (XD (pv 1))
  Xe))),?_⟩
 refine Y9 (S:=(SC.add SC.nil K (rV (rV Xb)) v_0 a_0)) (σ:=[some v_0,none,none,none]) 1 ?_ (SC.i SC.t h_0) hm q rfl
 unfold Ys
 exact(XZ (K:=K) (o:=(oD Xl)) 1 0 (JX (r:=Xl)) (Nat.le_of_ble_eq_true rfl) λa1 v2 C3=>(YN (K:=K) (J:=({oo:=λx4=>[x4.2.2.2],ss:=λx4=>[some v_0,some x4.2.2.1,x4.1,x4.2.1],sc:=λg5 x4=>(SC.addO (SC.add SC.nil K (rV (rV Xb)) v_0 a_0) K (oD Xl) x4.2.2.1 g5 x4.2.2.2)}:Jn ((List (Int×Bool))) (Option V×Option V×V×List Xn))) (λ_=>tg1 2) ((none),(none),v2,C3) (a1) (XF (Xq (r:=(rV (rV Xb))) 0 rfl (λ_ s=>s.l.r))) rfl rfl (λ_ s=>(SC.i (SC.i SC.t s.l.r) s.r)) (λg6 x7 a8 v9=>(YN (K:=K) (J:=({oo:=λx10=>[x10.2.2],ss:=λx10=>[some v_0,some x10.2.1,some v9,x10.1],sc:=λg11 x10=>(SC.addO (SC.add (SC.add SC.nil K (rV (rV Xb)) v_0 a_0) K (rV Xb) v9 a8) K (oD Xl) x10.2.1 g11 x10.2.2)}:Jn ((List (Int×Bool))) (Option V×V×List Xn))) (λ_=>tg1 3) ((x7.2.1),x7.2.2.1,x7.2.2.2) (g6) (XF (Xq (r:=(rV Xb)) 2 rfl (λ_ s=>s.r))) rfl rfl (λ_ s=>(SC.i (SC.i (SC.i SC.t s.l.l.r) s.r) s.l.r)) (λg12 x13 a14 v15=>(QX (K:=K) (r:=Xl) (f:=λa18=>(Rs.ok (a18))) 1 0 rfl rfl (λ_ s=>s.l.r) (EvB.sh (YM true)) (Xd (r:=Xb) 3 rfl (λ_ s=>s.r)) λa18 C19=>(Xw (J:=_) ((some v15),x13.2.1,C19) (a18) rfl rfl (λ_ s=>(SC.i (SC.i (SC.i SC.t s.l.l.l.l.r) s.l.l.l.r) s.r))))) λg20 x21=>(Xw (J:=_) ((some v9),(x21.1),x21.2.1,x21.2.2) (g20) rfl rfl (λ_ s=>(SC.i (SC.i SC.t s.l.l.r) s.r))))) λg23 x24=>(XC (Y2 (o:=(oD Xl)) 1 0 rfl rfl (λ_ s=>s.r)))))
theorem X3:FnScope ["walks","signs","standing","signed","earlier","at","walk","place","passage","alone"] ["walks","signs","standing"] (Xi Zp):=⟨rfl,rfl,rfl,by decide+kernel,rfl,by decide+kernel,by decide+kernel⟩
theorem VP (D:Def K mg "walk_fault" Zp ["walks","signs","standing"])(Y:Ecs XL K mg)(Z:Blt mg):Fn P w K mg base 1 "walk_fault" ["walks","signs","standing"] (sp3 (rV (rV Xb)) (rV (rP2 Xb Xb)) (rD Xl) (oF (Q5 (rPL (rEi Xt Xb)))) YA K):=by
 refine Zi D X3 (λvs H Q E h=>?_) (λf cdv A outer s H vs Q E hr h=>?_)
 ·obtain⟨v_0,v_1,v_2,a_0,a_1,a_2,b,rfl,_⟩:=h;rfl
 obtain⟨v_0,v_1,v_2,a_0,a_1,a_2,b,rfl,h_0,h_1,h_2,hm,q⟩:=h
 have hu:=hu8 hr
 have hu1:=YT hr
 refine⟨_,(Xa (Xm (i:=3) X3.nd rfl (Or.inl rfl) (Yp (Q1 K rfl rfl) rfl Z.b_dict PyProof.Rows.boot_dict (Xc (ZL (sc:=(Xi Zp)) (N0:=["walks","signs","standing","signed","earlier","at","walk","place","passage","alone"]) (tns:=["entry"]) (caps:=[]) rfl (XM (K:=K) rfl (pv 1)) (QN (by decide)) (λcl C s H ex E=>⟨Xv (i:=0) (show List.Nodup (["entry"]:List Str) by decide+kernel) rfl (Or.inl rfl),Qi,(YZ (Xc (XJ (XG K rfl) (pv 0) Xh (λ_ _=>rfl)) (Xc ZP Xf)))⟩)) Xf)))
  (Xa (Xm (i:=4) X3.nd rfl (Or.inl rfl) Qx)
  (Xa (Ye PassesOwn.never rfl (Ku rfl Z.b_enumerate (pv 0)) (Vj rfl (Yj (Xv (i:=5) X3.nd rfl (Or.inl rfl)) (Yj (Xv (i:=6) X3.nd rfl (Or.inl rfl)) Qa)))
   (Xa (Ye PassesOwn.never rfl (Ku rfl Z.b_enumerate (pv 6)) (Vj rfl (Yj (Xv (i:=7) X3.nd rfl (Or.inl rfl)) (Yj (Xv (i:=8) X3.nd rfl (Or.inl rfl)) Qa)))
    (Xa (Xm (i:=9) X3.nd rfl (Or.inl rfl) (Lz (Ei (II hu1 (pv 8) (pv 4))) (GA (Ei (Jq hu1 (Q6 ZN (pv 8)) (pv 2))))))
    (Xa (Yi (PW.pt (Q7 (XE Fj (pv 8) Xh (XQ _)) (Q7 (YL (pv 9)) (Z8 (EB (Jq hu1 (XA Bl rfl Z.b_abs PyProof.Rows.boot_abs (Xc (pv 8) Xf)) (pv 3)))))))
     (Xa (XD (YZ (Xc XO (Xc (pv 5) (Xc (pv 7) Xf)))))
     Xe)
     Xe)
    (Xa (QJ hu1 (pv 4) (pv 8) ZP rfl)
    Xe))))
   Xe))
  (Xa (XD Vl)
  Xe)))),?_⟩
 refine Y9 (S:=(SC.add (SC.add (SC.add SC.nil K (rV (rV Xb)) v_0 a_0) K (rV (rP2 Xb Xb)) v_1 a_1) K (rD Xl) v_2 a_2)) (σ:=[some v_0,some v_1,some v_2,none,none,none,none,none,none,none]) 1 ?_ (SC.i (SC.i (SC.i SC.t h_0) h_1) h_2) hm q rfl
 unfold YA
 exact(XI (K:=K) (r:=(rD Xl)) 3 (Ev.sh (GD (Ev.ls (Qj (λ_=>tg1 0) (XF (Xq (r:=(rV (rP2 Xb Xb))) 1 rfl (λ_ s=>s.l.r))) (λC4 a5 v6=>(EvS.ev (Zq (EvB.sh (QE (Xd (r:=(rP2 Xb Xb)) 0 rfl (λ_ s=>s.r)))) (EvB.sh (YM true))))))))) λa1 v2=>(XZ (K:=K) (o:=(oD Xl)) 4 0 (JX (r:=Xl)) (Nat.le_of_ble_eq_true rfl) λa11 v12 C13=>(Uh (K:=K) (J:=({oo:=λx15=>[x15.2.2.2.2.2.2],ss:=λx15=>[some v_0,some v_1,some v_2,some v2,some x15.2.2.2.2.2.1,x15.1,x15.2.1,x15.2.2.1,x15.2.2.2.1,x15.2.2.2.2.1],sc:=λg16 x15=>(SC.addO (SC.add (SC.add (SC.add (SC.add SC.nil K (rV (rV Xb)) v_0 a_0) K (rV (rP2 Xb Xb)) v_1 a_1) K (rD Xl) v_2 a_2) K (rD Xl) v2 a1) K (oD Xl) x15.2.2.2.2.2.1 g16 x15.2.2.2.2.2.2)}:Jn ((List (Int×Bool))) (Option V×Option V×Option V×Option V×Option V×V×List Xn))) (λ_=>tg2 5 6) ((none),(none),(none),(none),(none),v12,C13) (a11) (JL (Xq (r:=(rV (rV Xb))) 0 rfl (λ_ s=>s.l.l.l.l.r))) rfl rfl (λ_ s=>(SC.i (SC.i (SC.i (SC.i (SC.i SC.t s.l.l.l.l.r) s.l.l.l.r) s.l.l.r) s.l.r) s.r)) (λg17 x18 a19 v20=>(Gn (K:=K) (J:=({oo:=λx22=>[x22.2.2.2.2],ss:=λx22=>[some v_0,some v_1,some v_2,some v2,some x22.2.2.2.1,some v20.1,some v20.2,x22.1,x22.2.1,x22.2.2.1],sc:=λg23 x22=>(SC.addO (SC.add (SC.add (SC.add (SC.add (SC.add (SC.add SC.nil K (rV (rV Xb)) v_0 a_0) K (rV (rP2 Xb Xb)) v_1 a_1) K (rD Xl) v_2 a_2) K (rD Xl) v2 a1) K Xb v20.1 a19.1) K (rV Xb) v20.2 a19.2) K (oD Xl) x22.2.2.2.1 g23 x22.2.2.2.2)}:Jn ((List (Int×Bool))) (Option V×Option V×Option V×V×List Xn))) (λ_=>tg2 7 8) ((x18.2.2.1),(x18.2.2.2.1),(x18.2.2.2.2.1),x18.2.2.2.2.2.1,x18.2.2.2.2.2.2) (g17) (JL (Xq (r:=(rV Xb)) 6 rfl (λ_ s=>s.r))) rfl rfl (λ_ s=>(SC.i (SC.i (SC.i (SC.i (SC.i (SC.i (SC.i SC.t s.l.l.l.l.l.l.r) s.l.l.l.l.l.r) s.l.l.l.l.r) s.l.l.l.r) s.l.r) s.r) s.l.l.r)) (λg24 x25 a26 v27=>(XI (K:=K) (r:=Xl) 9 (EvB.sh (Dx (EW (Xd (r:=Xb) 8 rfl (λ_ s=>s.r)) (X7 (o:=(oD Xl)) 4 0 rfl rfl (λ_ s=>s.l.l.r))) (Um (Y0 (Xd (r:=Xb) 8 rfl (λ_ s=>s.r))) (Xd (r:=(rD Xl)) 2 rfl (λ_ s=>s.l.l.l.l.l.l.r))))) λa28 v29=>(QH (ZM (Xs (K:=K) (Vu (Xd (r:=Xb) 8 rfl (λ_ s=>s.l.r)) (Xg 0))) (ZM (Zm (K:=K) (Xd (r:=Xl) 9 rfl (λ_ s=>s.r))) (Zm (K:=K) (Um (EJ (Xd (r:=Xb) 8 rfl (λ_ s=>s.l.r))) (Xd (r:=(rD Xl)) 3 rfl (λ_ s=>s.l.l.l.l.l.l.r)))))) (XC (Jd Br (EvS.ev (Jk (Xy (VY (p:=Xb) (EvB.sh (XN _))) (Xy (JE (o:=Xt) (Xq (r:=Xb) 5 rfl (λ_ s=>s.l.l.l.l.l.r))) (Xy (JE (o:=Xt) (Xq (r:=Xb) 7 rfl (λ_ s=>s.l.l.r))) Y4))))))) (QX (K:=K) (r:=Xl) (f:=λa54=>(Rs.bind (Rs.ok (a54)) λx56=>(Rs.ok (Ctl.nx x56)))) 4 0 rfl rfl (λ_ s=>s.l.l.l.r) (EvB.sh (YM true)) (Xd (r:=Xb) 8 rfl (λ_ s=>s.l.r)) λa54 C55=>(Vy (Xw (J:=_) ((some v27.1),(some v27.2),(some v29),x25.2.2.2.1,C55) (a54) rfl rfl (λ_ s=>(SC.i (SC.i (SC.i (SC.i (SC.i (SC.i (SC.i SC.t s.l.l.l.l.l.l.l.l.l.l.r) s.l.l.l.l.l.l.l.l.l.r) s.l.l.l.l.l.l.l.l.r) s.l.l.l.l.l.l.l.r) s.l.l.l.l.l.l.r) s.l.l.l.l.l.r) s.r)))))))) λg58 x59=>(Vy (Xw (J:=_) ((some v20.1),(some v20.2),(x59.1),(x59.2.1),(x59.2.2.1),x59.2.2.2.1,x59.2.2.2.2) (g58) rfl rfl (λ_ s=>(SC.i (SC.i (SC.i (SC.i (SC.i SC.t s.l.l.l.l.l.l.r) s.l.l.l.l.l.r) s.l.l.l.l.r) s.l.l.l.r) s.r)))))) λg62 x63=>(XC Kr))))
theorem YK:FnScope ["signs","standing","ahead","at","entry"] ["signs","standing"] (Xi ZU):=⟨rfl,rfl,rfl,by decide+kernel,rfl,by decide+kernel,by decide+kernel⟩
theorem VO (D:Def K mg "sign_fault" ZU ["signs","standing"])(Y:Ecs XL K mg)(Z:Blt mg):Fn P w K mg base 1 "sign_fault" ["signs","standing"] (sp2 (rV (rP2 Xb Xb)) (rD Xl) (oF (Q5 (rPL (rEi Xt Xb)))) YB K):=by
 refine Zi D YK (λvs H Q E h=>?_) (λf cdv A outer s H vs Q E hr h=>?_)
 ·obtain⟨v_0,v_1,a_0,a_1,b,rfl,_⟩:=h;rfl
 obtain⟨v_0,v_1,a_0,a_1,b,rfl,h_0,h_1,hm,q⟩:=h
 have hu:=hu8 hr
 have hu1:=YT hr
 refine⟨_,(Xa (Xm (i:=2) YK.nd rfl (Or.inl rfl) Xh)
  (Xa (Ye PassesOwn.never rfl (Ku rfl Z.b_enumerate (pv 0)) (Vj rfl (Yj (Xv (i:=3) YK.nd rfl (Or.inl rfl)) (Yj (Xv (i:=4) YK.nd rfl (Or.inl rfl)) Qa)))
   (Xa (Yi (PW.pt (Q7 (XE Mp (XJ (XG K rfl) (pv 4) Xh (λ_ _=>rfl)) (pv 2) (XQ _)) (Q7 (XE Q3 (XJ (XG K rfl) (pv 4) Xh (λ_ _=>rfl)) (YZ (Xc Xh (Xc (Q6 ZN Xh) Xf))) rfl) (Z8 (EB (Jq hu1 (XJ (XG K rfl) (pv 4) Xh (λ_ _=>rfl)) (pv 1)))))))
    (Xa (XD (YZ (Xc XO (Xc (pv 3) Xf))))
    Xe)
    Xe)
   (Xa (Xm (i:=2) YK.nd rfl (Or.inl rfl) (XJ (XG K rfl) (pv 4) Xh (λ_ _=>rfl)))
   Xe)))
  (Xa (XD Vl)
  Xe))),?_⟩
 refine Y9 (S:=(SC.add (SC.add SC.nil K (rV (rP2 Xb Xb)) v_0 a_0) K (rD Xl) v_1 a_1)) (σ:=[some v_0,some v_1,none,none,none]) 0 ?_ (SC.i (SC.i SC.t h_0) h_1) hm q rfl
 unfold YB
 exact(XI (K:=K) (r:=Xb) 2 (EvB.sh (Xg 0)) λa1 v2=>(Uh (K:=K) (J:=({oo:=λx4=>[],ss:=λx4=>[some v_0,some v_1,some x4.2.2,x4.1,x4.2.1],sc:=λg5 x4=>(SC.add (SC.add (SC.add SC.nil K (rV (rP2 Xb Xb)) v_0 a_0) K (rD Xl) v_1 a_1) K Xb x4.2.2 g5)}:Jn (Int) (Option V×Option V×V))) (λ_=>tg2 3 4) ((none),(none),v2) (a1) (JL (Xq (r:=(rV (rP2 Xb Xb))) 0 rfl (λ_ s=>s.l.l.r))) rfl rfl (λ_ s=>(SC.i (SC.i (SC.i SC.t s.l.l.r) s.l.r) s.r)) (λg6 x7 a8 v9=>(QH (ZM (Xs (K:=K) (IA (QE (Xd (r:=(rP2 Xb Xb)) 4 rfl (λ_ s=>s.r))) (Xd (r:=Xb) 2 rfl (λ_ s=>s.l.l.r)))) (ZM (Xs (K:=K) (Gy (Z9 (Xd (r:=(rP2 Xb Xb)) 4 rfl (λ_ s=>s.r))) (Cm (Ev.toB (EvS.ev (Zq (EvB.sh (Xg 1)) (EvB.sh (Y0 (Xg 1))))))))) (Zm (K:=K) (Um (QE (Xd (r:=(rP2 Xb Xb)) 4 rfl (λ_ s=>s.r))) (Xd (r:=(rD Xl)) 1 rfl (λ_ s=>s.l.l.l.r)))))) (XC (Jd Br (EvS.ev (Jk (Xy (VY (p:=Xb) (EvB.sh (XN _))) (Xy (JE (o:=Xt) (Xq (r:=Xb) 3 rfl (λ_ s=>s.l.r))) Y4)))))) (XI (K:=K) (r:=Xb) 2 (EvB.sh (QE (Xd (r:=(rP2 Xb Xb)) 4 rfl (λ_ s=>s.r)))) λa32 v33=>(Vy (Xw (J:=_) ((some v9.1),(some v9.2),v33) (a32) rfl rfl (λ_ s=>(SC.i (SC.i (SC.i SC.t s.l.l.l.l.l.r) s.l.l.l.l.r) s.r))))))) λg37 x38=>(XC Kr)))
theorem VQ:FnScope ["walks","signs"] ["walks","signs"] (Xi ZQ):=⟨rfl,rfl,rfl,by decide+kernel,rfl,by decide+kernel,by decide+kernel⟩
theorem Us (D:Def K mg "many_fault" ZQ ["walks","signs"])(Y:Ecs XL K mg)(Z:Blt mg):Fn P w K mg base 1 "many_fault" ["walks","signs"] (sp2 (rV (rV Xb)) (rV (rP2 Xb Xb)) (oF (Q5 (rPL (rEi Xt Xb)))) YD K):=by
 refine Zi D VQ (λvs H Q E h=>?_) (λf cdv A outer s H vs Q E hr h=>?_)
 ·obtain⟨v_0,v_1,a_0,a_1,b,rfl,_⟩:=h;rfl
 obtain⟨v_0,v_1,a_0,a_1,b,rfl,h_0,h_1,hm,q⟩:=h
 have hu:=hu8 hr
 have hu1:=YT hr
 refine⟨_,(Xa (Yi (XE F5 (XA (Xx K rfl) rfl Z.b_len PySem.boot_len (Xc (pv 1) Xf)) (DG Z.c_MOST_CROSSINGS rfl) (XQ _))
   (Xa (XD (YZ (Xc XO (Xc (XA (Xx K rfl) rfl Z.b_len PySem.boot_len (Xc (pv 1) Xf)) Xf))))
   Xe)
   Xe)
  (Xa (Yi (XE F5 (XA (Xx K rfl) rfl Z.b_len PySem.boot_len (Xc (pv 0) Xf)) (DG Z.c_MOST_WALKS rfl) (XQ _))
   (Xa (XD (YZ (Xc XO (Xc (XA (Xx K rfl) rfl Z.b_len PySem.boot_len (Xc (pv 0) Xf)) Xf))))
   Xe)
   Xe)
  (Xa (XD Vl)
  Xe))),?_⟩
 refine Y9 (S:=(SC.add (SC.add SC.nil K (rV (rV Xb)) v_0 a_0) K (rV (rP2 Xb Xb)) v_1 a_1)) (σ:=[some v_0,some v_1]) 0 ?_ (SC.i (SC.i SC.t h_0) h_1) hm q rfl
 unfold YD
 exact(Y5 (Xs (K:=K) (U8 (Y3 (Xd (r:=(rV (rP2 Xb Xb))) 1 rfl (λ_ s=>s.r))) (Xg 40))) (XC (Jd Br (EvS.ev (Jk (Xy (VY (p:=Xb) (EvB.sh (XN _))) (Xy (JE (o:=Xt) (EvB.sh (Y3 (Xd (r:=(rV (rP2 Xb Xb))) 1 rfl (λ_ s=>s.r))))) Y4)))))) (Y5 (Xs (K:=K) (U8 (Y3 (Xd (r:=(rV (rV Xb))) 0 rfl (λ_ s=>s.l.r))) (Xg 12))) (XC (Jd Br (EvS.ev (Jk (Xy (VY (p:=Xb) (EvB.sh (XN _))) (Xy (JE (o:=Xt) (EvB.sh (Y3 (Xd (r:=(rV (rV Xb))) 0 rfl (λ_ s=>s.l.r))))) Y4)))))) (XC Kr)))
theorem ZB:FnScope ["drawing","walks","signs","standing","wrong"] ["drawing"] (Xi KG):=⟨rfl,rfl,rfl,by decide+kernel,rfl,by decide+kernel,by decide+kernel⟩
theorem BV (D:Def K mg "fault" KG ["drawing"])(g_passages_of:Fn P w K mg base 1 "passages_of" ["walks"] (sp1 (rV (rV Xb)) (oD Xl) Ys K))(g_walk_fault:Fn P w K mg base 1 "walk_fault" ["walks","signs","standing"] (sp3 (rV (rV Xb)) (rV (rP2 Xb Xb)) (rD Xl) (oF (Q5 (rPL (rEi Xt Xb)))) YA K))(g_sign_fault:Fn P w K mg base 1 "sign_fault" ["signs","standing"] (sp2 (rV (rP2 Xb Xb)) (rD Xl) (oF (Q5 (rPL (rEi Xt Xb)))) YB K))(g_many_fault:Fn P w K mg base 1 "many_fault" ["walks","signs"] (sp2 (rV (rV Xb)) (rV (rP2 Xb Xb)) (oF (Q5 (rPL (rEi Xt Xb)))) YD K))(Y:Ecs XL K mg)(Z:Blt mg):Fn P w K mg base 2 "fault" ["drawing"] (sp1 (rP2 (rV (rV Xb)) (rV (rP2 Xb Xb))) (oF (Q5 (rPL (rEi Xt Xb)))) ZI K):=by
 refine Zi D ZB (λvs H Q E h=>?_) (λf cdv A outer s H vs Q E hr h=>?_)
 ·obtain⟨v_0,a_0,b,rfl,_⟩:=h;rfl
 obtain⟨v_0,a_0,b,rfl,h_0,hm,q⟩:=h
 have hu:=hu8 hr
 have hu1:=YT hr
 refine⟨_,(Xa (Xm (i:=1) ZB.nd rfl (Or.inl rfl) (XJ (XG K rfl) (pv 0) Xh (λ_ _=>rfl)))
  (Xa (Xm (i:=2) ZB.nd rfl (Or.inl rfl) (XJ (XG K rfl) (pv 0) Xh (λ_ _=>rfl)))
  (Xa (Xm (i:=3) ZB.nd rfl (Or.inl rfl) (YF g_passages_of hr (by decide) (Xc (pv 1) Xf)))
  (Xa (Xm (i:=4) ZB.nd rfl (Or.inl rfl) (YF g_walk_fault hr (by decide) (Xc (pv 1) (Xc (pv 2) (Xc (pv 3) Xf)))))
  (Xa (Yi (XE Ey (pv 4) Vl (XQ _))
   (Xa (Xm (i:=4) ZB.nd rfl (Or.inl rfl) (YF g_sign_fault hr (by decide) (Xc (pv 2) (Xc (pv 3) Xf))))
   Xe)
   Xe)
  (Xa (Yi (XE Ey (pv 4) Vl (XQ _))
   (Xa (Xm (i:=4) ZB.nd rfl (Or.inl rfl) (YF g_many_fault hr (by decide) (Xc (pv 1) (Xc (pv 2) Xf))))
   Xe)
   Xe)
  (Xa (XD (pv 4))
  Xe))))))),?_⟩
 refine Y9 (S:=(SC.add SC.nil K (rP2 (rV (rV Xb)) (rV (rP2 Xb Xb))) v_0 a_0)) (σ:=[some v_0,none,none,none,none]) 0 ?_ (SC.i SC.t h_0) hm q rfl
 unfold ZI
 exact(XI (K:=K) (r:=(rV (rV Xb))) 1 (Qg (Xq (r:=(rP2 (rV (rV Xb)) (rV (rP2 Xb Xb)))) 0 rfl (λ_ s=>s.r))) λa1 v2=>(XI (K:=K) (r:=(rV (rP2 Xb Xb))) 2 (QF (Xq (r:=(rP2 (rV (rV Xb)) (rV (rP2 Xb Xb)))) 0 rfl (λ_ s=>s.l.r))) λa4 v5=>(XI (K:=K) (r:=(rD Xl)) 3 (Ev.sh (Ya (Xd (r:=(rV (rV Xb))) 1 rfl (λ_ s=>s.l.r)))) λa7 v8=>(XI (K:=K) (r:=(Q5 (rPL (rEi Xt Xb)))) 4 (EvB.sh (Ev.toB (Qo (Xd (r:=(rV (rV Xb))) 1 rfl (λ_ s=>s.l.l.r)) (Xd (r:=(rV (rP2 Xb Xb))) 2 rfl (λ_ s=>s.l.r)) (Xd (r:=(rD Xl)) 3 rfl (λ_ s=>s.r))))) λa11 v12=>(Yx (J:=({oo:=λx19=>[],ss:=λx19=>[some v_0,some v2,some v5,some v8,some x19],sc:=λg20 x19=>(SC.add (SC.add (SC.add (SC.add (SC.add SC.nil K (rP2 (rV (rV Xb)) (rV (rP2 Xb Xb))) v_0 a_0) K (rV (rV Xb)) v2 a1) K (rV (rP2 Xb Xb)) v5 a4) K (rD Xl) v8 a7) K (Q5 (rPL (rEi Xt Xb))) x19 g20)}:Jn ((Option (List (Str ⊕ Int)))) (V))) (Zk (Fd:=FNd ({oo:=λx19=>[],ss:=λx19=>[some v_0,some v2,some v5,some v8,some x19],sc:=λg20 x19=>(SC.add (SC.add (SC.add (SC.add (SC.add SC.nil K (rP2 (rV (rV Xb)) (rV (rP2 Xb Xb))) v_0 a_0) K (rV (rV Xb)) v2 a1) K (rV (rP2 Xb Xb)) v5 a4) K (rD Xl) v8 a7) K (Q5 (rPL (rEi Xt Xb))) x19 g20)}:Jn ((Option (List (Str ⊕ Int)))) (V))) (Xs (K:=K) (Cw (tb:=tC .non) (Xd (r:=(Q5 (rPL (rEi Xt Xb)))) 4 rfl (λ_ s=>s.r)))) (XI (K:=K) (r:=(Q5 (rPL (rEi Xt Xb)))) 4 (EvB.sh (Ev.toB (Za (Xd (r:=(rV (rP2 Xb Xb))) 2 rfl (λ_ s=>s.l.l.r)) (Xd (r:=(rD Xl)) 3 rfl (λ_ s=>s.l.r))))) λa21 v22=>(Xw (J:=_) (v22) (a21) rfl rfl (λ_ s=>(SC.i (SC.i (SC.i (SC.i (SC.i SC.t s.l.l.l.l.l.r) s.l.l.l.l.r) s.l.l.l.r) s.l.l.r) s.r)))) (Xw (J:=_) (v12) (a11) rfl rfl (λ_ s=>(SC.i (SC.i (SC.i (SC.i (SC.i SC.t s.l.l.l.l.r) s.l.l.l.r) s.l.l.r) s.l.r) s.r)))) λg27 x26=>(Yx (J:=({oo:=λx30=>[],ss:=λx30=>[some v_0,some v2,some v5,some v8,some x30],sc:=λg31 x30=>(SC.add (SC.add (SC.add (SC.add (SC.add SC.nil K (rP2 (rV (rV Xb)) (rV (rP2 Xb Xb))) v_0 a_0) K (rV (rV Xb)) v2 a1) K (rV (rP2 Xb Xb)) v5 a4) K (rD Xl) v8 a7) K (Q5 (rPL (rEi Xt Xb))) x30 g31)}:Jn ((Option (List (Str ⊕ Int)))) (V))) (Zk (Fd:=FNd ({oo:=λx30=>[],ss:=λx30=>[some v_0,some v2,some v5,some v8,some x30],sc:=λg31 x30=>(SC.add (SC.add (SC.add (SC.add (SC.add SC.nil K (rP2 (rV (rV Xb)) (rV (rP2 Xb Xb))) v_0 a_0) K (rV (rV Xb)) v2 a1) K (rV (rP2 Xb Xb)) v5 a4) K (rD Xl) v8 a7) K (Q5 (rPL (rEi Xt Xb))) x30 g31)}:Jn ((Option (List (Str ⊕ Int)))) (V))) (Xs (K:=K) (Cw (tb:=tC .non) (Xd (r:=(Q5 (rPL (rEi Xt Xb)))) 4 rfl (λ_ s=>s.r)))) (XI (K:=K) (r:=(Q5 (rPL (rEi Xt Xb)))) 4 (EvB.sh (Ev.toB (Za (Xd (r:=(rV (rV Xb))) 1 rfl (λ_ s=>s.l.l.l.r)) (Xd (r:=(rV (rP2 Xb Xb))) 2 rfl (λ_ s=>s.l.l.r))))) λa32 v33=>(Xw (J:=_) (v33) (a32) rfl rfl (λ_ s=>(SC.i (SC.i (SC.i (SC.i (SC.i SC.t s.l.l.l.l.l.r) s.l.l.l.l.r) s.l.l.l.r) s.l.l.r) s.r)))) (Xw (J:=_) (x26) (g27) rfl rfl (λ_ s=>(SC.i (SC.i (SC.i (SC.i (SC.i SC.t s.l.l.l.l.r) s.l.l.l.r) s.l.l.r) s.l.r) s.r)))) λg38 x37=>(XC (EvS.ev (Xq (r:=(Q5 (rPL (rEi Xt Xb)))) 4 rfl (λ_ s=>s.r))))))))))
theorem Ke:FnScope ["sign"] ["sign"] (Xi Qd):=⟨rfl,rfl,rfl,by decide+kernel,rfl,by decide+kernel,by decide+kernel⟩
theorem Uz (D:Def K mg "sign_word" Qd ["sign"])(Y:Ecs XL K mg)(Z:Blt mg):Fn P w K mg base 1 "sign_word" ["sign"] (sp1 Xb (oF Xt) YQ K):=by
 refine Zi D Ke (λvs H Q E h=>?_) (λf cdv A outer s H vs Q E hr h=>?_)
 ·obtain⟨v_0,a_0,b,rfl,_⟩:=h;rfl
 obtain⟨v_0,a_0,b,rfl,h_0,hm,q⟩:=h
 have hu:=hu8 hr
 have hu1:=YT hr
 refine⟨_,(Xa (XD (Jc (XE Fj (pv 0) Xh (XQ _)) XO XO))
  Xe),?_⟩
 refine Y9 (S:=(SC.add SC.nil K Xb v_0 a_0)) (σ:=[some v_0]) 0 ?_ (SC.i SC.t h_0) hm q rfl
 unfold YQ
 exact(XC (HU (Xs (K:=K) (Vu (Xd (r:=Xb) 0 rfl (λ_ s=>s.r)) (Xg 1))) (EvS.ev (EvB.sh (XN _))) (EvS.ev (EvB.sh (XN _)))))
theorem JC:FnScope ["passage","signs"] ["passage","signs"] (Xi Zu):=⟨rfl,rfl,rfl,by decide+kernel,rfl,by decide+kernel,by decide+kernel⟩
theorem JK (D:Def K mg "passage_word" Zu ["passage","signs"])(g_sign_word:Fn P w K mg base 1 "sign_word" ["sign"] (sp1 Xb (oF Xt) YQ K))(Y:Ecs XL K mg)(Z:Blt mg):Fn P w K mg base 2 "passage_word" ["passage","signs"] (sp2 Xb (rD Xb) (oF Xt) X4 K):=by
 refine Zi D JC (λvs H Q E h=>?_) (λf cdv A outer s H vs Q E hr h=>?_)
 ·obtain⟨v_0,v_1,a_0,a_1,b,rfl,_⟩:=h;rfl
 obtain⟨v_0,v_1,a_0,a_1,b,rfl,h_0,h_1,hm,q⟩:=h
 have hu:=hu8 hr
 have hu1:=YT hr
 refine⟨_,(Xa (Yi (XE KS (pv 0) Xh (XQ _))
   (Xa (XD (Xz Zc XO (Yp YY rfl Z.b_str PyProof.Rows.boot_str (Xc (Q6 ZN (pv 0)) Xf))))
   Xe)
   Xe)
  (Xa (XD (Xz Zc (Xz Zc XO (Yp YY rfl Z.b_str PyProof.Rows.boot_str (Xc (pv 0) Xf))) (YF g_sign_word hr (by decide) (Xc (Ju hu1 (pv 1) (pv 0) (λ_ _=>rfl)) Xf))))
  Xe)),?_⟩
 refine Y9 (S:=(SC.add (SC.add SC.nil K Xb v_0 a_0) K (rD Xb) v_1 a_1)) (σ:=[some v_0,some v_1]) 0 ?_ (SC.i (SC.i SC.t h_0) h_1) hm q rfl
 unfold X4
 exact(Y5 (Xs (K:=K) (Js (Xd (r:=Xb) 0 rfl (λ_ s=>s.l.r)) (Xg 0))) (XC (EvS.ev (EvB.sh (ZW (XN _) (QA (Y0 (Xd (r:=Xb) 0 rfl (λ_ s=>s.l.r)))))))) (XC (EvS.ev (EvB.sh (ZW (ZW (XN _) (QA (Xd (r:=Xb) 0 rfl (λ_ s=>s.l.r)))) (Ev.toB (Ya (Qr (Xd (r:=(rD Xb)) 1 rfl (λ_ s=>s.r)) (Xd (r:=Xb) 0 rfl (λ_ s=>s.l.r))))))))))
theorem YI:FnScope ["drawing","signs","words","walk"] ["drawing"] (Xi YU):=⟨rfl,rfl,rfl,by decide+kernel,rfl,by decide+kernel,by decide+kernel⟩
theorem Jw (D:Def K mg "show_drawing" YU ["drawing"])(g_passage_word:Fn P w K mg base 2 "passage_word" ["passage","signs"] (sp2 Xb (rD Xb) (oF Xt) X4 K))(Y:Ecs XL K mg)(Z:Blt mg):Fn P w K mg base 3 "show_drawing" ["drawing"] (sp1 (rP2 (rV (rV Xb)) (rV (rP2 Xb Xb))) (oF Xt) Yf K):=by
 refine Zi D YI (λvs H Q E h=>?_) (λf cdv A outer s H vs Q E hr h=>?_)
 ·obtain⟨v_0,a_0,b,rfl,_⟩:=h;rfl
 obtain⟨v_0,a_0,b,rfl,h_0,hm,q⟩:=h
 have hu:=hu8 hr
 have hu1:=YT hr
 refine⟨_,(Xa (Xm (i:=1) YI.nd rfl (Or.inr rfl) (Yp (Q1 K rfl rfl) rfl Z.b_dict PyProof.Rows.boot_dict (Xc (XJ (XG K rfl) (pv 0) Xh (λ_ _=>rfl)) Xf)))
  (Xa (Xm (i:=2) YI.nd rfl (Or.inl rfl) (Yq Xf))
  (Xa (Ye PassesOwn.never rfl (XM (K:=K) rfl (XJ (XG K rfl) (pv 0) Xh (λ_ _=>rfl))) (Xv (i:=3) YI.nd rfl (Or.inl rfl))
   (Xa (X0 (YX PySem.F.plainAttrs_list PySem.F.slot_list_append PySem.F.type_list_append XH (pv 2) (Xc XO Xf)))
   (Xa (X0 (YX PySem.F.plainAttrs_list PySem.F.slot_list_extend PySem.F.type_list_extend Km (pv 2) (Xc (ZL (sc:=(Xi YU)) (N0:=["drawing","signs","words","walk"]) (tns:=["passage"]) (caps:=[(1,"signs")]) rfl (XM (K:=K) rfl (pv 3)) (QN (by decide)) (λcl C s H ex E=>⟨Xv (i:=0) (show List.Nodup (["passage","signs"]:List Str) by decide+kernel) rfl (Or.inl rfl),Qi,(YF g_passage_word hr (by decide) (Xc (pv 0) (Xc (pv 1) Xf)))⟩)) Xf)))
   Xe)))
  (Xa (XD (VC (K:=K) rfl PySem.F.plainAttrs_str PySem.F.slot_str_join PySem.F.type_str_join (CG K rfl) XO (Xc (pv 2) Xf)))
  Xe)))),?_⟩
 refine Y9 (S:=(SC.add SC.nil K (rP2 (rV (rV Xb)) (rV (rP2 Xb Xb))) v_0 a_0)) (σ:=[some v_0,none,none,none]) 1 ?_ (SC.i SC.t h_0) hm q rfl
 unfold Yf
 exact(XI (K:=K) (r:=(rD Xb)) 1 (Ev.sh (GD (EvB.ls (Z9 (Xd (r:=(rP2 (rV (rV Xb)) (rV (rP2 Xb Xb)))) 0 rfl (λ_ s=>s.r)))))) λa1 v2=>(XZ (K:=K) (o:=(oL (oF Xt))) 2 0 (Qk (o:=(oF Xt))) (Nat.le_of_ble_eq_true rfl) λa5 v6 C7=>(YN (K:=K) (J:=({oo:=λx9=>[x9.2.2],ss:=λx9=>[some v_0,some v2,some x9.2.1,x9.1],sc:=λg10 x9=>(SC.addO (SC.add (SC.add SC.nil K (rP2 (rV (rV Xb)) (rV (rP2 Xb Xb))) v_0 a_0) K (rD Xb) v2 a1) K (oL (oF Xt)) x9.2.1 g10 x9.2.2)}:Jn ((List Str)) (Option V×V×List Xn))) (λ_=>tg1 3) ((none),v6,C7) (a5) (XF (Qg (Xq (r:=(rP2 (rV (rV Xb)) (rV (rP2 Xb Xb)))) 0 rfl (λ_ s=>s.l.l.r)))) rfl rfl (λ_ s=>(SC.i (SC.i (SC.i SC.t s.l.l.r) s.l.r) s.r)) (λg11 x12 a13 v14=>(Zh (K:=K) (o:=(oF Xt)) (f:=λa17=>(Rs.bind (Rs.bind (Rs.ok a13) λx21=>(GL x21 (λa19=>(Rs.bind (Rs.ok a19) λx23=>(Rs.bind (Rs.ok a1) λx24=>(noE (X4 x23 x24))))))) λa25=>(chk (a17.length+a25.length<=sizeLine) ((λa27=>(Rs.ok (a27))) (a17++a25))))) 2 0 rfl rfl rfl (λ_ s=>s.l.r) (EvS.ev (EvB.sh (XN _))) λa15 C16=>(B6 (K:=K) (o:=(oF Xt)) (f:=λa27=>(Rs.ok (a27))) 2 0 rfl rfl rfl (λ_ s=>s.r) (Qj (λ_=>tg1 0) (XF (Xq (r:=(rV Xb)) 3 rfl (λ_ s=>s.l.r))) (λC18 a19 v20=>(Za (Xd (r:=Xb) 0 rfl (λ_ s=>s.r)) (Xd (r:=(rD Xb)) 1 rfl (λ_ s=>s.l.l.l.l.r))))) λa25 C26=>(Xw (J:=_) ((some v14),x12.2.1,C26) (((g11++[a15])++a25)) rfl rfl (λ_ s=>(SC.i (SC.i (SC.i SC.t s.l.l.l.l.l.r) s.l.l.l.l.r) s.r)))))) λg28 x29=>(XC (EvS.ev (EvB.sh (Gv (XN _) (X7 (o:=(oL (oF Xt))) 2 0 rfl rfl (λ_ s=>s.r)))))))))
theorem KD:FnScope ["line"] ["line"] (Xi QQ):=⟨rfl,rfl,rfl,by decide+kernel,rfl,by decide+kernel,by decide+kernel⟩
theorem Kx (D:Def K mg "words_of" QQ ["line"])(Y:Ecs XL K mg)(Z:Blt mg):Fn P w K mg base 1 "words_of" ["line"] (sp1 Xt (oL (oF Xt)) YR K):=by
 refine Zi D KD (λvs H Q E h=>?_) (λf cdv A outer s H vs Q E hr h=>?_)
 ·obtain⟨v_0,a_0,b,rfl,_⟩:=h;rfl
 obtain⟨v_0,a_0,b,rfl,h_0,hm,q⟩:=h
 have hu:=hu8 hr
 have hu1:=YT hr
 refine⟨_,(Xa (XD (Jc (XE GY (pv 0) XO (XQ _)) (VC (K:=K) rfl PySem.F.plainAttrs_str PySem.F.slot_str_split PySem.F.type_str_split BF (pv 0) (Xc XO Xf)) (Yq Xf)))
  Xe),?_⟩
 refine Y9 (S:=(SC.add SC.nil K Xt v_0 a_0)) (σ:=[some v_0]) 0 ?_ (SC.i SC.t h_0) hm q rfl
 unfold YR
 exact(XC (HU (Xs (K:=K) (VD (Xd (r:=Xt) 0 rfl (λ_ s=>s.r)) (XN _))) (Bd (Xd (r:=Xt) 0 rfl (λ_ s=>s.r)) (XN _)) (Qk (o:=(oF Xt)))))
theorem Zs:FnScope ["word","figures","number"] ["word"] (Xi ZH):=⟨rfl,rfl,rfl,by decide+kernel,rfl,by decide+kernel,by decide+kernel⟩
theorem Ve (D:Def K mg "read_number" ZH ["word"])(Y:Ecs XL K mg)(Z:Blt mg):FnX P w K mg base 1 "read_number" ["word"] (EE mg Xt (oF Xb) XV K):=by
 refine Fp D Zs (λvs H Q E h=>?_) (λf cdv A outer s H vs Q E hr h=>?_)
 ·obtain⟨v_0,a_0,rfl,_⟩:=h;rfl
 obtain⟨v_0,a_0,rfl,h_0,hz⟩:=h
 obtain⟨C_NoLine,h_NoLine,q_NoLine⟩:=Y.adr "NoLine" (.tail _ (.tail _ (.tail _ (.head _))))
 replace q_NoLine:=q_NoLine (by decide)
 have hu:=hu8 hr
 have hu1:=YT hr
 refine⟨_,(Xa (PS.nox (Xm (i:=1) Zs.nd rfl (Or.inl rfl) (Jc (YL (VC (K:=K) rfl PySem.F.plainAttrs_str PySem.F.slot_str_startswith PySem.F.type_str_startswith JZ (pv 0) (Xc XO Xf))) (Qs GM (pv 0) (QV Xh) V3) (pv 0))))
  (Xa (Yi (PW.pt (Q7 (Zd (YL (Ld PySem.F.plainAttrs_str PySem.F.slot_str_isdigit PySem.F.type_str_isdigit BC (pv 1)))) (Z8 (XE F5 (XA UT rfl Z.b_len PySem.boot_len (Xc (pv 1) Xf)) (DG Z.c_MOST_FIGURES rfl) (XQ _)))))
   (Xa (Z2 VI rfl q_NoLine rfl h_NoLine (Xc (LM (V8 (pv 0) (K3 XO GO))) Xf))
   Xe)
   Xe)
  (Xa (PS.nox (Xm (i:=2) Zs.nd rfl (Or.inl rfl) (Yp DW rfl Z.b_int PyProof.Rows.boot_int (Xc (pv 0) Xf))))
  (Xa (Yi (XE GY (Yp YY rfl Z.b_str PyProof.Rows.boot_str (Xc (pv 2) Xf)) (pv 0) (XQ _))
   (Xa (Z2 VI rfl q_NoLine rfl h_NoLine (Xc (LM (V8 (pv 0) (K3 XO GO))) Xf))
   Xe)
   Xe)
  (Xa (PS.nox (XD (pv 2)))
  Xe))))),?_⟩
 refine DS (S:=(SC.add SC.nil K Xt v_0 a_0)) (σ:=[some v_0,none,none]) 0 ?_ (SC.i SC.t h_0) hz rfl
 unfold XV
 exact(XI (K:=K) (r:=Xt) 1 (EvB.sh (IK (Zm (K:=K) (QD (Xd (r:=Xt) 0 rfl (λ_ s=>s.r)) (XN _))) (Z0 (Xd (r:=Xt) 0 rfl (λ_ s=>s.r)) (ZZ (K:=K) (Xg 1)) Jf) (Xd (r:=Xt) 0 rfl (λ_ s=>s.r)))) λa1 v2=>(Y5 (ZM (Yz (Zm (K:=K) (Df (Xd (r:=Xt) 1 rfl (λ_ s=>s.r))))) (Xs (K:=K) (U8 (BU (Xd (r:=Xt) 1 rfl (λ_ s=>s.r))) (Xg 18)))) (ZY h_NoLine (C9 (Jj (K:=K) (Xd (r:=Xt) 0 rfl (λ_ s=>s.l.r)) (VS V2)))) (XI (K:=K) (r:=Xb) 2 (EvB.sh (CT (Xd (r:=Xt) 0 rfl (λ_ s=>s.l.r)))) λa18 v19=>(Y5 (Xs (K:=K) (VD (QA (Xd (r:=Xb) 2 rfl (λ_ s=>s.r))) (Xd (r:=Xt) 0 rfl (λ_ s=>s.l.l.r)))) (ZY h_NoLine (C9 (Jj (K:=K) (Xd (r:=Xt) 0 rfl (λ_ s=>s.l.l.r)) (VS V2)))) (XC (EvS.ev (Xq (r:=Xb) 2 rfl (λ_ s=>s.r))))))))
theorem UK:FnScope ["word"] ["word"] (Xi Qb):=⟨rfl,rfl,rfl,by decide+kernel,rfl,by decide+kernel,by decide+kernel⟩
theorem U6 (D:Def K mg "read_sign" Qb ["word"])(Y:Ecs XL K mg)(Z:Blt mg):FnX P w K mg base 1 "read_sign" ["word"] (EE mg Xt (oF Xb) Yw K):=by
 refine Fp D UK (λvs H Q E h=>?_) (λf cdv A outer s H vs Q E hr h=>?_)
 ·obtain⟨v_0,a_0,rfl,_⟩:=h;rfl
 obtain⟨v_0,a_0,rfl,h_0,hz⟩:=h
 obtain⟨C_NoLine,h_NoLine,q_NoLine⟩:=Y.adr "NoLine" (.tail _ (.tail _ (.tail _ (.head _))))
 replace q_NoLine:=q_NoLine (by decide)
 have hu:=hu8 hr
 have hu1:=YT hr
 refine⟨_,(Xa (Yi (XE Q3 (pv 0) (YZ (Xc XO (Xc XO Xf))) rfl)
   (Xa (Z2 VI rfl q_NoLine rfl h_NoLine (Xc (LM (V8 (pv 0) (K3 XO GO))) Xf))
   Xe)
   Xe)
  (Xa (PS.nox (XD (Jc (XE Fj (pv 0) XO (XQ _)) Xh (Q6 ZN Xh))))
  Xe)),?_⟩
 refine DS (S:=(SC.add SC.nil K Xt v_0 a_0)) (σ:=[some v_0]) 0 ?_ (SC.i SC.t h_0) hz rfl
 unfold Yw
 exact(Y5 (Xs (K:=K) (Gy (Xd (r:=Xt) 0 rfl (λ_ s=>s.r)) (BE (Ev.toB (EvS.ev (Zq (EvB.sh (XN _)) (EvB.sh (XN _)))))))) (ZY h_NoLine (C9 (Jj (K:=K) (Xd (r:=Xt) 0 rfl (λ_ s=>s.r)) (VS V2)))) (XC (HU (Xs (K:=K) (Vu (Xd (r:=Xt) 0 rfl (λ_ s=>s.r)) (XN _))) (EvS.ev (EvB.sh (Xg 1))) (EvS.ev (EvB.sh (Y0 (Xg 1)))))))
theorem X8:FnScope ["line","walks","signs","word","crossing","drawing"] ["line"] (Xi Zt):=⟨rfl,rfl,rfl,by decide+kernel,rfl,by decide+kernel,by decide+kernel⟩
theorem J0 (D:Def K mg "read_drawing" Zt ["line"])(g_words_of:Fn P w K mg base 1 "words_of" ["line"] (sp1 Xt (oL (oF Xt)) YR K))(g_fault:Fn P w K mg base 2 "fault" ["drawing"] (sp1 (rP2 (rV (rV Xb)) (rV (rP2 Xb Xb))) (oF (Q5 (rPL (rEi Xt Xb)))) ZI K))(g_read_number:FnX P w K mg base 1 "read_number" ["word"] (EE mg Xt (oF Xb) XV K))(g_read_sign:FnX P w K mg base 1 "read_sign" ["word"] (EE mg Xt (oF Xb) Yw K))(Y:Ecs XL K mg)(Z:Blt mg):FnX P w K mg base 3 "read_drawing" ["line"] (EE mg Xt (oT2 (oL (oL (oF Xb))) (oL (oF (rP2 Xb Xb)))) X5 K):=by
 refine Fp D X8 (λvs H Q E h=>?_) (λf cdv A outer s H vs Q E hr h=>?_)
 ·obtain⟨v_0,a_0,rfl,_⟩:=h;rfl
 obtain⟨v_0,a_0,rfl,h_0,hz⟩:=h
 obtain⟨C_NoLine,h_NoLine,q_NoLine⟩:=Y.adr "NoLine" (.tail _ (.tail _ (.tail _ (.head _))))
 replace q_NoLine:=q_NoLine (by decide)
 have hu:=hu8 hr
 have hu1:=YT hr
 refine⟨_,(Xa (PS.nox (Xm (i:=1) X8.nd rfl (Or.inl rfl) (Yq Xf)))
  (Xa (PS.nox (Xm (i:=2) X8.nd rfl (Or.inl rfl) Qx))
  (Xa (Ye PassesOwn.leaving rfl (XM (K:=K) rfl (YF g_words_of hr (by decide) (Xc (pv 0) Xf))) (Xv (i:=3) X8.nd rfl (Or.inl rfl))
   (Xa (Yi (XE Fj (pv 3) XO (XQ _))
    (Xa (PS.nox (X0 (YX PySem.F.plainAttrs_list PySem.F.slot_list_append PySem.F.type_list_append XH (pv 1) (Xc (Yq Xf) Xf JY))))
    Xe)
    (Xa (Yi (XE (Du (GT (GT eq_int)) (Fa (by decide) hu)) (pv 1) (Yq Xf) (XQ _))
     (Xa (Z2 VI rfl q_NoLine rfl h_NoLine (Xc XO Xf))
     Xe)
     (Xa (Yi (YL (VC (K:=K) rfl PySem.F.plainAttrs_str PySem.F.slot_str_startswith PySem.F.type_str_startswith JZ (pv 3) (Xc XO Xf)))
      (Xa (Xm (i:=4) X8.nd rfl (Or.inl rfl) (GQ g_read_number hr (by decide) Hz (Xc (Qs GM (pv 3) (QV Xh) (QV (Q6 ZN Xh))) Xf)))
      (Xa (QJ hu1 (pv 2) (pv 4) (GQ g_read_sign hr (by decide) Hz (Xc (Qs GM (pv 3) (QV (Q6 ZN Xh)) V3) Xf)) rfl)
      (Xa (PS.nox (X0 (YX PySem.F.plainAttrs_list PySem.F.slot_list_append PySem.F.type_list_append XH (XJ (XB K rfl) (pv 1) (Q6 ZN Xh) (λ_ _=>rfl)) (Xc (pv 4) Xf))))
      Xe)))
      (Xa (Yi (YL (VC (K:=K) rfl PySem.F.plainAttrs_str PySem.F.slot_str_startswith PySem.F.type_str_startswith JZ (pv 3) (Xc XO Xf)))
       (Xa (X0 (YX PySem.F.plainAttrs_list PySem.F.slot_list_append PySem.F.type_list_append XH (XJ (XB K rfl) (pv 1) (Q6 ZN Xh) (λ_ _=>rfl)) (Xc (Q6 ZN (GQ g_read_number hr (by decide) Hz (Xc (Qs GM (pv 3) (QV Xh) V3) Xf))) Xf)))
       Xe)
       (Xa (Z2 VI rfl q_NoLine rfl h_NoLine (Xc (LM (V8 (pv 3) (K3 XO GO))) Xf))
       Xe))
      Xe))
     Xe))
    Xe))
   Xe))
  (Xa (PS.nox (Xm (i:=5) X8.nd rfl (Or.inl rfl) (YZ (Xc (pv 1) (Xc (U3 rfl rfl Z.b_sorted (pv 2) (Fa (by decide) hu)) Xf)))))
  (Xa (Yi (XE HA (YF g_fault hr (by decide) (Xc (pv 5) Xf)) Vl (XQ _))
   (Xa (Z2 VI rfl q_NoLine rfl h_NoLine (Xc XO Xf))
   Xe)
   Xe)
  (Xa (PS.nox (XD (pv 5)))
  Xe)))))),?_⟩
 refine DS (S:=(SC.add SC.nil K Xt v_0 a_0)) (σ:=[some v_0,none,none,none,none,none]) 3 ?_ (SC.i SC.t h_0) hz rfl
 unfold X5
 exact(XZ (K:=K) (o:=(oL (oL (oF Xb)))) 1 1 (Qk (o:=(oL (oF Xb)))) (Nat.le_of_ble_eq_true rfl) λa1 v2 C3=>(XZ (K:=K) (o:=(oD Xb)) 2 2 (JX (r:=Xb)) (Nat.le_of_ble_eq_true rfl) λa4 v5 C6=>(YN (K:=K) (J:=({oo:=λx9=>[[],x9.2.2.2.2.1,x9.2.2.2.2.2],ss:=λx9=>[some v_0,some x9.2.1,some x9.2.2.2.1,x9.1,x9.2.2.1,none],sc:=λg10 x9=>(SC.addO (SC.addO (SC.add SC.nil K Xt v_0 a_0) K (oL (oL (oF Xb))) x9.2.1 g10.1 x9.2.2.2.2.1) K (oD Xb) x9.2.2.2.1 g10.2 x9.2.2.2.2.2)}:Jn ((List (List Int))×(List (Int×Int))) (Option V×V×Option V×V×List Xn×List Xn))) (λ_=>tg1 3) ((none),v2,(none),v5,C3,C6) (a1,a4) (XF (Ev.sh (Ya (Xd (r:=Xt) 0 rfl (λ_ s=>s.l.l.r))))) rfl rfl (λ_ s=>(SC.i (SC.i (SC.i SC.t s.l.l.r) s.l.r) s.r)) (λg11 x12 a13 v14=>(Yx (J:=({oo:=λx18=>[[],x18.2.2.2.1,x18.2.2.2.2],ss:=λx18=>[some v_0,some x18.1,some x18.2.2.1,some v14,x18.2.1,none],sc:=λg19 x18=>(SC.addO (SC.addO (SC.add (SC.add SC.nil K Xt v_0 a_0) K Xt v14 a13) K (oL (oL (oF Xb))) x18.1 g19.1 x18.2.2.2.1) K (oD Xb) x18.2.2.1 g19.2 x18.2.2.2.2)}:Jn ((List (List Int))×(List (Int×Int))) (V×Option V×V×List Xn×List Xn))) (Zk (Fd:=FNd ({oo:=λx18=>[[],x18.2.2.2.1,x18.2.2.2.2],ss:=λx18=>[some v_0,some x18.1,some x18.2.2.1,some v14,x18.2.1,none],sc:=λg19 x18=>(SC.addO (SC.addO (SC.add (SC.add SC.nil K Xt v_0 a_0) K Xt v14 a13) K (oL (oL (oF Xb))) x18.1 g19.1 x18.2.2.2.1) K (oD Xb) x18.2.2.1 g19.2 x18.2.2.2.2)}:Jn ((List (List Int))×(List (Int×Int))) (V×Option V×V×List Xn×List Xn))) (Xs (K:=K) (Vu (Xd (r:=Xt) 3 rfl (λ_ s=>s.r)) (XN _))) (Zh (K:=K) (o:=(oL (oF Xb))) (f:=λa22=>(Rs.ok (a22,g11.2))) 1 1 rfl rfl rfl (λ_ s=>s.l.l.r) (Qk (o:=(oF Xb))) λa20 C21=>(Xw (J:=_) (x12.2.1,(x12.2.2.1),x12.2.2.2.1,C21,x12.2.2.2.2.2) ((g11.1++[a20]),g11.2) rfl rfl (λ_ s=>(SC.i (SC.i (SC.i (SC.i SC.t s.l.l.l.l.r) s.l.r) s.r) s.l.l.r)))) (Yx (J:=({oo:=λx26=>[[],x26.2.2.2.2,x26.2.2.2.1],ss:=λx26=>[some v_0,some x26.2.2.1,some x26.2.1,some v14,x26.1,none],sc:=λg27 x26=>(SC.addO (SC.addO (SC.add (SC.add SC.nil K Xt v_0 a_0) K Xt v14 a13) K (oD Xb) x26.2.1 g27.1 x26.2.2.2.1) K (oL (oL (oF Xb))) x26.2.2.1 g27.2 x26.2.2.2.2)}:Jn ((List (Int×Int))×(List (List Int))) (Option V×V×V×List Xn×List Xn))) (Zk (Fd:=FNd ({oo:=λx26=>[[],x26.2.2.2.2,x26.2.2.2.1],ss:=λx26=>[some v_0,some x26.2.2.1,some x26.2.1,some v14,x26.1,none],sc:=λg27 x26=>(SC.addO (SC.addO (SC.add (SC.add SC.nil K Xt v_0 a_0) K Xt v14 a13) K (oD Xb) x26.2.1 g27.1 x26.2.2.2.1) K (oL (oL (oF Xb))) x26.2.2.1 g27.2 x26.2.2.2.2)}:Jn ((List (Int×Int))×(List (List Int))) (Option V×V×V×List Xn×List Xn))) (Xs (K:=K) (KN (X7 (o:=(oL (oL (oF Xb)))) 1 1 rfl rfl (λ_ s=>s.l.l.r)) (Ev.toB (Qk (o:=(oL (oF Xb))))))) (ZY h_NoLine CH) (Yx (J:=({oo:=λx32=>[[],x32.2.2.2.2,x32.2.2.2.1],ss:=λx32=>[some v_0,some x32.2.2.1,some x32.2.1,some v14,x32.1,none],sc:=λg33 x32=>(SC.addO (SC.addO (SC.add (SC.add SC.nil K Xt v_0 a_0) K Xt v14 a13) K (oD Xb) x32.2.1 g33.1 x32.2.2.2.1) K (oL (oL (oF Xb))) x32.2.2.1 g33.2 x32.2.2.2.2)}:Jn ((List (Int×Int))×(List (List Int))) (Option V×V×V×List Xn×List Xn))) (Zk (Fd:=FNd ({oo:=λx32=>[[],x32.2.2.2.2,x32.2.2.2.1],ss:=λx32=>[some v_0,some x32.2.2.1,some x32.2.1,some v14,x32.1,none],sc:=λg33 x32=>(SC.addO (SC.addO (SC.add (SC.add SC.nil K Xt v_0 a_0) K Xt v14 a13) K (oD Xb) x32.2.1 g33.1 x32.2.2.2.1) K (oL (oL (oF Xb))) x32.2.2.1 g33.2 x32.2.2.2.2)}:Jn ((List (Int×Int))×(List (List Int))) (Option V×V×V×List Xn×List Xn))) (Zm (K:=K) (QD (Xd (r:=Xt) 3 rfl (λ_ s=>s.r)) (XN _))) (XI (K:=K) (r:=Xb) 4 (EvB.sh (Ev.toB (QB (Z0 (Xd (r:=Xt) 3 rfl (λ_ s=>s.r)) (ZZ (K:=K) (Xg 1)) (ZZ (K:=K) (Y0 (Xg 1))))))) λa34 v35=>(QX (K:=K) (r:=Xb) (f:=λa51=>(Rs.bind (Rs.bind (Rs.ok (1:Int)) λx53=>(Rs.ok (-x53))) λx55=>(Rs.bind (atR g11.1 x55) λx56=>(Rs.bind (Rs.ok a34) λx54=>(chk (x56.length<sizeLine) (Rs.bind (Vw g11.1 x55 (x56++[x54])) λa57=>(Rs.ok (a51,a57)))))))) 2 2 rfl rfl (λ_ s=>s.l.l.r) (EvB.sh (Ev.toB (QB (Z0 (Xd (r:=Xt) 3 rfl (λ_ s=>s.l.r)) (ZZ (K:=K) (Y0 (Xg 1))) Jf)))) (Xd (r:=Xb) 4 rfl (λ_ s=>s.r)) λa51 C52=>(VX (K:=K) (r:=Xb) 1 1 rfl rfl (λ_ s=>s.l.l.l.l.r) (Xq (r:=Xb) 4 rfl (λ_ s=>s.l.r)) (Y0 (Xg 1)) λa57 C58=>(Xw (J:=_) ((some v35),x12.2.2.2.1,x12.2.1,C52,C58) (a51,a57) rfl rfl (λ_ s=>(SC.i (SC.i (SC.i (SC.i SC.t s.l.l.l.l.l.l.r) s.l.l.l.r) s.l.r) s.r)))))) (Yx (J:=({oo:=λx62=>[[],x62.2,x12.2.2.2.2.2],ss:=λx62=>[some v_0,some x62.1,some x12.2.2.2.1,some v14,x12.2.2.1,none],sc:=λg63 x62=>(SC.addO (SC.add (SC.addO (SC.add SC.nil K Xt v_0 a_0) K (oD Xb) x12.2.2.2.1 g11.2 x12.2.2.2.2.2) K Xt v14 a13) K (oL (oL (oF Xb))) x62.1 g63 x62.2)}:Jn ((List (List Int))) (V×List Xn))) (Zk (Fd:=FNd ({oo:=λx62=>[[],x62.2,x12.2.2.2.2.2],ss:=λx62=>[some v_0,some x62.1,some x12.2.2.2.1,some v14,x12.2.2.1,none],sc:=λg63 x62=>(SC.addO (SC.add (SC.addO (SC.add SC.nil K Xt v_0 a_0) K (oD Xb) x12.2.2.2.1 g11.2 x12.2.2.2.2.2) K Xt v14 a13) K (oL (oL (oF Xb))) x62.1 g63 x62.2)}:Jn ((List (List Int))) (V×List Xn))) (Zm (K:=K) (QD (Xd (r:=Xt) 3 rfl (λ_ s=>s.r)) (XN _))) (VX (K:=K) (r:=Xb) 1 1 rfl rfl (λ_ s=>s.l.l.r) (EvB.sh (Y0 (Ev.toB (QB (Z0 (Xd (r:=Xt) 3 rfl (λ_ s=>s.r)) (ZZ (K:=K) (Xg 1)) Jf))))) (Y0 (Xg 1)) λa74 C75=>(Xw (J:=_) (x12.2.1,C75) (a74) rfl rfl (λ_ s=>(SC.i (SC.i (SC.i (SC.i SC.t s.l.l.l.l.r) s.l.l.r) s.l.r) s.r)))) (ZY h_NoLine (C9 (Jj (K:=K) (Xd (r:=Xt) 3 rfl (λ_ s=>s.r)) (VS V2))))) λg79 x78=>(Xw (J:=_) ((x12.2.2.1),x12.2.2.2.1,x78.1,x12.2.2.2.2.2,x78.2) (g11.2,g79) rfl rfl (λ_ s=>(SC.i (SC.i (SC.i (SC.i SC.t s.l.l.l.r) s.l.r) s.l.l.r) s.r))))) λg81 x80=>(Xw (J:=_) ((x80.1),x80.2.1,x80.2.2.1,x80.2.2.2.1,x80.2.2.2.2) (g81.1,g81.2) rfl rfl (λ_ s=>(SC.i (SC.i (SC.i (SC.i SC.t s.l.l.l.r) s.l.l.r) s.l.r) s.r))))) λg83 x82=>(Xw (J:=_) (x82.2.2.1,(x82.1),x82.2.1,x82.2.2.2.2,x82.2.2.2.1) (g83.2,g83.1) rfl rfl (λ_ s=>(SC.i (SC.i (SC.i (SC.i SC.t s.l.l.l.r) s.l.l.r) s.r) s.l.r))))) λg85 x84=>(Xw (J:=_) ((some v14),x84.1,(x84.2.1),x84.2.2.1,x84.2.2.2.1,x84.2.2.2.2) (g85.1,g85.2) rfl rfl (λ_ s=>(SC.i (SC.i (SC.i SC.t s.l.l.l.r) s.l.r) s.r))))) λg86 x87=>(XZ (K:=K) (o:=(oT2 (oL (oL (oF Xb))) (oL (oF (rP2 Xb Xb))))) 5 0 (Qw (Y2 (o:=(oL (oL (oF Xb)))) 1 1 rfl rfl (λ_ s=>s.l.r)) λ_=>(DF (X7 (o:=(oD Xb)) 2 3 rfl rfl (λ_ s=>s.r)))) (Nat.le_of_ble_eq_true rfl) λa88 v89 C90=>(Y5 (Xs (K:=K) (BG (tb:=tC .non) (Ev.toB (Ya (X7 (o:=(oT2 (oL (oL (oF Xb))) (oL (oF (rP2 Xb Xb))))) 5 0 rfl rfl (λ_ s=>s.r)))))) (ZY h_NoLine CH) (XC (Y2 (o:=(oT2 (oL (oL (oF Xb))) (oL (oF (rP2 Xb Xb))))) 5 0 rfl rfl (λ_ s=>s.r))))))))
theorem Uo:FnScope ["_law_script","_law_place","_law_seed","_law_cell_here"] ["_law_script","_law_place"] (Xi CD):=⟨rfl,rfl,rfl,by decide+kernel,rfl,by decide+kernel,by decide+kernel⟩
theorem Hv (D:Def K mg "_law_cell" CD ["_law_script","_law_place"])(Y:Ecs XL K mg)(Z:Blt mg):Fn P w K mg base 1 "_law_cell" ["_law_script","_law_place"] (sp2 (rL Xb) Xb (oF Xb) JF K):=by
 refine Zi D Uo (λvs H Q E h=>?_) (λf cdv A outer s H vs Q E hr h=>?_)
 ·obtain⟨v_0,v_1,a_0,a_1,b,rfl,_⟩:=h;rfl
 obtain⟨v_0,v_1,a_0,a_1,b,rfl,h_0,h_1,hm,q⟩:=h
 have hu:=hu8 hr
 have hu1:=YT hr
 refine⟨_,(Xa (Yi (XE KS (pv 1) (XA (Xx K rfl) rfl Z.b_len PySem.boot_len (Xc (pv 0) Xf)) (XQ _))
   (Xa (XD (XJ (XB K rfl) (pv 0) (pv 1) (λ_ _=>rfl)))
   Xe)
   Xe)
  (Xa (Xm (i:=2) Uo.nd rfl (Or.inl rfl) Xh)
  (Xa (Ye PassesOwn.never rfl (XM (K:=K) rfl (Qs (CY K rfl) (pv 0) V3 (QV Xh))) (Xv (i:=3) Uo.nd rfl (Or.inl rfl))
   (Xa (Xm (i:=2) Uo.nd rfl (Or.inl rfl) (Xz Zo (Xz Yk (Xz Yk (Xz YW (pv 2) Xh) (Xz Zo (pv 3) Xh)) Xh) Xh))
   Xe))
  (Xa (XD (Xz Zo (Xz Yk (pv 2) (Xz YW Xh (pv 1))) Xh))
  Xe)))),?_⟩
 refine Y9 (S:=(SC.add (SC.add SC.nil K (rL Xb) v_0 a_0) K Xb v_1 a_1)) (σ:=[some v_0,some v_1,none,none]) 0 ?_ (SC.i (SC.i SC.t h_0) h_1) hm q rfl
 unfold JF
 exact(Y5 (Xs (K:=K) (Js (Xd (r:=Xb) 1 rfl (λ_ s=>s.r)) (Bj (Xd (r:=(rL Xb)) 0 rfl (λ_ s=>s.l.r))))) (XC (EvS.ev (EvB.sh (Hy (Xd (r:=(rL Xb)) 0 rfl (λ_ s=>s.l.r)) (Xd (r:=Xb) 1 rfl (λ_ s=>s.r)))))) (XI (K:=K) (r:=Xb) 2 (EvB.sh (Xg 5)) λa7 v8=>(YN (K:=K) (J:=({oo:=λx13=>[],ss:=λx13=>[some v_0,some v_1,some x13.2,x13.1],sc:=λg14 x13=>(SC.add (SC.add (SC.add SC.nil K (rL Xb) v_0 a_0) K Xb v_1 a_1) K Xb x13.2 g14)}:Jn (Int) (Option V×V))) (λ_=>tg1 3) ((none),v8) (a7) (XF (Ev.sh (DP (Xd (r:=(rL Xb)) 0 rfl (λ_ s=>s.l.l.r)) Jf (ZZ (K:=K) (Xg 63))))) rfl rfl (λ_ s=>(SC.i (SC.i (SC.i SC.t s.l.l.r) s.l.r) s.r)) (λg15 x16 a17 v18=>(XI (K:=K) (r:=Xb) 2 (EvB.sh (YG (XU (XU (Yr (Xd (r:=Xb) 2 rfl (λ_ s=>s.l.r)) (Xg 48271)) (YG (Xd (r:=Xb) 3 rfl (λ_ s=>s.r)) (Xg 1000003))) (Xg 1)) (Xg 2147483647))) λa19 v20=>(Xw (J:=_) ((some v18),v20) (a19) rfl rfl (λ_ s=>(SC.i (SC.i (SC.i SC.t s.l.l.l.l.r) s.l.l.l.r) s.r))))) λg31 x32=>(XC (EvS.ev (EvB.sh (YG (XU (Xd (r:=Xb) 2 rfl (λ_ s=>s.r)) (Yr (Xg 7919) (Xd (r:=Xb) 1 rfl (λ_ s=>s.l.r)))) (Xg 1000003))))))))
theorem Cn:FnScope ["_law_cell_here","_law_k","_law_one","_law_two"] ["_law_cell_here","_law_k"] (Xi HH):=⟨rfl,rfl,rfl,by decide+kernel,rfl,by decide+kernel,by decide+kernel⟩
theorem Le (D:Def K mg "_law_mix" HH ["_law_cell_here","_law_k"])(Y:Ecs XL K mg)(Z:Blt mg):Fn P w K mg base 1 "_law_mix" ["_law_cell_here","_law_k"] (sp2 Xb Xb (oF Xb) KZ K):=by
 refine Zi D Cn (λvs H Q E h=>?_) (λf cdv A outer s H vs Q E hr h=>?_)
 ·obtain⟨v_0,v_1,a_0,a_1,b,rfl,_⟩:=h;rfl
 obtain⟨v_0,v_1,a_0,a_1,b,rfl,h_0,h_1,hm,q⟩:=h
 have hu:=hu8 hr
 have hu1:=YT hr
 refine⟨_,(Xa (Xm (i:=2) Cn.nd rfl (Or.inl rfl) (Xz Zo (Xz Vm (Xz Yk (Xz Yk (Xz Zo (pv 0) Xh) (Xz YW Xh (pv 1))) Xh) Xh) Xh))
  (Xa (Xm (i:=3) Cn.nd rfl (Or.inl rfl) (Xz Zo (Xz Yk (Xz Yk (Xz YW (pv 2) Xh) (Xz YW (Xz YW Xh (pv 1)) (pv 1))) Xh) Xh))
  (Xa (XD (Xz Ga (pv 3) Xh))
  Xe))),?_⟩
 refine Y9 (S:=(SC.add (SC.add SC.nil K Xb v_0 a_0) K Xb v_1 a_1)) (σ:=[some v_0,some v_1,none,none]) 0 ?_ (SC.i (SC.i SC.t h_0) h_1) hm q rfl
 unfold KZ
 exact(XI (K:=K) (r:=Xb) 2 (EvB.sh (YG (QP (XU (XU (YG (Xd (r:=Xb) 0 rfl (λ_ s=>s.l.r)) (Xg 2147483629)) (Yr (Xg 1013) (Xd (r:=Xb) 1 rfl (λ_ s=>s.r)))) (Xg 7919)) (Xg 3)) (Xg 2147483647))) λa1 v2=>(XI (K:=K) (r:=Xb) 3 (EvB.sh (YG (XU (XU (Yr (Xd (r:=Xb) 2 rfl (λ_ s=>s.r)) (Xg 40699)) (Yr (Yr (Xg 3793) (Xd (r:=Xb) 1 rfl (λ_ s=>s.l.r))) (Xd (r:=Xb) 1 rfl (λ_ s=>s.l.r)))) (Xg 11)) (Xg 2147483399))) λa15 v16=>(XC (EvS.ev (EvB.sh (F8 (Xd (r:=Xb) 3 rfl (λ_ s=>s.r)) (Xg 101)))))))
theorem JR:FnScope ["_law_script","_law_place","_law_sizes","_law_cell_here","_law_left","_law_some","_law_k","_law_other"] ["_law_script","_law_place","_law_sizes"] (Xi Ia):=⟨rfl,rfl,rfl,by decide+kernel,rfl,by decide+kernel,by decide+kernel⟩
theorem LD (D:Def K mg "_law_row" Ia ["_law_script","_law_place","_law_sizes"])(g_cell:Fn P w K mg base 1 "_law_cell" ["_law_script","_law_place"] (sp2 (rL Xb) Xb (oF Xb) JF K))(g_mix:Fn P w K mg base 1 "_law_mix" ["_law_cell_here","_law_k"] (sp2 Xb Xb (oF Xb) KZ K))(Y:Ecs XL K mg)(Z:Blt mg):Fn P w K mg base 2 "_law_row" ["_law_script","_law_place","_law_sizes"] (sp3 (rL Xb) Xb (rV Xb) (oL (oF Xb)) Kh K):=by
 refine Zi D JR (λvs H Q E h=>?_) (λf cdv A outer s H vs Q E hr h=>?_)
 ·obtain⟨v_0,v_1,v_2,a_0,a_1,a_2,b,rfl,_⟩:=h;rfl
 obtain⟨v_0,v_1,v_2,a_0,a_1,a_2,b,rfl,h_0,h_1,h_2,hm,q⟩:=h
 have hu:=hu8 hr
 have hu1:=YT hr
 refine⟨_,(Xa (Xm (i:=3) JR.nd rfl (Or.inl rfl) (YF g_cell hr (by decide) (Xc (pv 0) (Xc (pv 1) Xf))))
  (Xa (Xm (i:=4) JR.nd rfl (Or.inl rfl) (pv 3))
  (Xa (Xm (i:=5) JR.nd rfl (Or.inl rfl) (Yq Xf))
  (Xa (Ye PassesOwn.never rfl (Zl rfl Z.b_range (Xc (XA (Xx K rfl) rfl Z.b_len PySem.boot_len (Xc (pv 2) Xf)) Xf)) (Xv (i:=6) JR.nd rfl (Or.inl rfl))
   (Xa (Yi (XE KS (pv 3) (Xz Vm Xh Xh) (XQ _))
    (Xa (X0 (YX PySem.F.plainAttrs_list PySem.F.slot_list_append PySem.F.type_list_append XH (pv 5) (Xc (Xz Zo (YF g_mix hr (by decide) (Xc (pv 3) (Xc (pv 6) Xf))) (XJ (XB K rfl) (pv 2) (pv 6) (λ_ _=>rfl))) Xf)))
    Xe)
    (Xa (Yi (XE F5 (pv 4) Xh (XQ _))
     (Xa (X0 (YX PySem.F.plainAttrs_list PySem.F.slot_list_append PySem.F.type_list_append XH (pv 5) (Xc (Xz Zo (pv 4) (XJ (XB K rfl) (pv 2) (pv 6) (λ_ _=>rfl))) Xf)))
     (Xa (Xm (i:=4) JR.nd rfl (Or.inl rfl) (Xz Ga (pv 4) (XJ (XB K rfl) (pv 2) (pv 6) (λ_ _=>rfl))))
     Xe))
     (Xa (Xm (i:=7) JR.nd rfl (Or.inl rfl) (YF g_cell hr (by decide) (Xc (pv 0) (Xc (Xz Zo (Xz Yk (Xz Yk (pv 1) Xh) (pv 6)) Xh) Xf))))
     (Xa (X0 (YX PySem.F.plainAttrs_list PySem.F.slot_list_append PySem.F.type_list_append XH (pv 5) (Xc (Xz Zo (YF g_mix hr (by decide) (Xc (pv 7) (Xc (pv 6) Xf))) (XJ (XB K rfl) (pv 2) (pv 6) (λ_ _=>rfl))) Xf)))
     Xe)))
    Xe))
   Xe))
  (Xa (XD (pv 5))
  Xe))))),?_⟩
 refine Y9 (S:=(SC.add (SC.add (SC.add SC.nil K (rL Xb) v_0 a_0) K Xb v_1 a_1) K (rV Xb) v_2 a_2)) (σ:=[some v_0,some v_1,some v_2,none,none,none,none,none]) 1 ?_ (SC.i (SC.i (SC.i SC.t h_0) h_1) h_2) hm q rfl
 unfold Kh
 exact(XI (K:=K) (r:=Xb) 3 (EvB.sh (Ev.toB (Za (Xd (r:=(rL Xb)) 0 rfl (λ_ s=>s.l.l.r)) (Xd (r:=Xb) 1 rfl (λ_ s=>s.l.r))))) λa1 v2=>(XI (K:=K) (r:=Xb) 4 (Xq (r:=Xb) 3 rfl (λ_ s=>s.r)) λa6 v7=>(XZ (K:=K) (o:=(oL (oF Xb))) 5 0 (Qk (o:=(oF Xb))) (Nat.le_of_ble_eq_true rfl) λa8 v9 C10=>(YN (K:=K) (J:=({oo:=λx13=>[x13.2.2.2.2],ss:=λx13=>[some v_0,some v_1,some v_2,some v2,some x13.2.2.1,some x13.2.1,x13.1,x13.2.2.2.1],sc:=λg14 x13=>(SC.add (SC.addO (SC.add (SC.add (SC.add (SC.add SC.nil K (rL Xb) v_0 a_0) K Xb v_1 a_1) K (rV Xb) v_2 a_2) K Xb v2 a1) K (oL (oF Xb)) x13.2.1 g14.1 x13.2.2.2.2) K Xb x13.2.2.1 g14.2)}:Jn ((List Int)×Int) (Option V×V×V×Option V×List Xn))) (λ_=>tg1 6) ((none),v9,v7,(none),C10) (a8,a6) (Yy (Y3 (Xd (r:=(rV Xb)) 2 rfl (λ_ s=>s.l.l.l.r)))) rfl rfl (λ_ s=>(SC.i (SC.i (SC.i (SC.i (SC.i (SC.i SC.t s.l.l.l.l.l.r) s.l.l.l.l.r) s.l.l.l.r) s.l.l.r) s.r) s.l.r)) (λg15 x16 a17 v18=>(Yx (J:=({oo:=λx24=>[x24.2.2.2],ss:=λx24=>[some v_0,some v_1,some v_2,some v2,some x24.2.1,some x24.1,some v18,x24.2.2.1],sc:=λg25 x24=>(SC.add (SC.addO (SC.add (SC.add (SC.add (SC.add (SC.add SC.nil K (rL Xb) v_0 a_0) K Xb v_1 a_1) K (rV Xb) v_2 a_2) K Xb v2 a1) K Xb v18 a17) K (oL (oF Xb)) x24.1 g25.1 x24.2.2.2) K Xb x24.2.1 g25.2)}:Jn ((List Int)×Int) (V×V×Option V×List Xn))) (Zk (Fd:=FNd ({oo:=λx24=>[x24.2.2.2],ss:=λx24=>[some v_0,some v_1,some v_2,some v2,some x24.2.1,some x24.1,some v18,x24.2.2.1],sc:=λg25 x24=>(SC.add (SC.addO (SC.add (SC.add (SC.add (SC.add (SC.add SC.nil K (rL Xb) v_0 a_0) K Xb v_1 a_1) K (rV Xb) v_2 a_2) K Xb v2 a1) K Xb v18 a17) K (oL (oF Xb)) x24.1 g25.1 x24.2.2.2) K Xb x24.2.1 g25.2)}:Jn ((List Int)×Int) (V×V×Option V×List Xn))) (Xs (K:=K) (Js (Xd (r:=Xb) 3 rfl (λ_ s=>s.l.l.l.r)) (QP (Xg 10) (Xg 18)))) (Zh (K:=K) (o:=(oF Xb)) (f:=λa35=>(Rs.ok (a35,g15.2))) 5 0 rfl rfl rfl (λ_ s=>s.l.l.r) (EvS.ev (EvB.sh (YG (Ev.toB (Za (Xd (r:=Xb) 3 rfl (λ_ s=>s.l.l.l.r)) (Xd (r:=Xb) 6 rfl (λ_ s=>s.r)))) (Yc (Xd (r:=(rV Xb)) 2 rfl (λ_ s=>s.l.l.l.l.r)) (Xd (r:=Xb) 6 rfl (λ_ s=>s.r)))))) λa33 C34=>(Xw (J:=_) (x16.2.1,x16.2.2.1,(x16.2.2.2.1),C34) ((g15.1++[a33]),g15.2) rfl rfl (λ_ s=>(SC.i (SC.i (SC.i (SC.i (SC.i (SC.i (SC.i SC.t s.l.l.l.l.l.l.l.r) s.l.l.l.l.l.l.r) s.l.l.l.l.l.r) s.l.l.l.l.r) s.l.r) s.r) s.l.l.r)))) (Yx (J:=({oo:=λx39=>[x39.2.2.2],ss:=λx39=>[some v_0,some v_1,some v_2,some v2,some x39.1,some x39.2.2.1,some v18,x39.2.1],sc:=λg40 x39=>(SC.addO (SC.add (SC.add (SC.add (SC.add (SC.add (SC.add SC.nil K (rL Xb) v_0 a_0) K Xb v_1 a_1) K (rV Xb) v_2 a_2) K Xb v2 a1) K Xb v18 a17) K Xb x39.1 g40.1) K (oL (oF Xb)) x39.2.2.1 g40.2 x39.2.2.2)}:Jn (Int×(List Int)) (V×Option V×V×List Xn))) (Zk (Fd:=FNd ({oo:=λx39=>[x39.2.2.2],ss:=λx39=>[some v_0,some v_1,some v_2,some v2,some x39.1,some x39.2.2.1,some v18,x39.2.1],sc:=λg40 x39=>(SC.addO (SC.add (SC.add (SC.add (SC.add (SC.add (SC.add SC.nil K (rL Xb) v_0 a_0) K Xb v_1 a_1) K (rV Xb) v_2 a_2) K Xb v2 a1) K Xb v18 a17) K Xb x39.1 g40.1) K (oL (oF Xb)) x39.2.2.1 g40.2 x39.2.2.2)}:Jn (Int×(List Int)) (V×Option V×V×List Xn))) (Xs (K:=K) (U8 (Xd (r:=Xb) 4 rfl (λ_ s=>s.l.r)) (Xg 0))) (Zh (K:=K) (o:=(oF Xb)) (f:=λa47=>(Rs.bind (Rs.bind (Rs.ok g15.2) λx52=>(Rs.bind (Rs.bind (Rs.ok a_2) λx50=>(Rs.bind (Rs.ok a17) λx51=>(atR x50 x51))) λx53=>(Io x52 x53))) λa48=>(Rs.ok (a48,a47)))) 5 0 rfl rfl rfl (λ_ s=>s.l.l.r) (EvS.ev (EvB.sh (YG (Xd (r:=Xb) 4 rfl (λ_ s=>s.l.r)) (Yc (Xd (r:=(rV Xb)) 2 rfl (λ_ s=>s.l.l.l.l.r)) (Xd (r:=Xb) 6 rfl (λ_ s=>s.r)))))) λa45 C46=>(XI (K:=K) (r:=Xb) 4 (EvB.sh (F8 (Xd (r:=Xb) 4 rfl (λ_ s=>s.l.l.r)) (Yc (Xd (r:=(rV Xb)) 2 rfl (λ_ s=>s.l.l.l.l.l.r)) (Xd (r:=Xb) 6 rfl (λ_ s=>s.l.r))))) λa48 v49=>(Xw (J:=_) (v49,(x16.2.2.2.1),x16.2.1,C46) (a48,(g15.1++[a45])) rfl rfl (λ_ s=>(SC.i (SC.i (SC.i (SC.i (SC.i (SC.i (SC.i SC.t s.l.l.l.l.l.l.l.l.r) s.l.l.l.l.l.l.l.r) s.l.l.l.l.l.l.r) s.l.l.l.l.l.r) s.l.l.r) s.r) s.l.r))))) (XI (K:=K) (r:=Xb) 7 (EvB.sh (Ev.toB (Za (Xd (r:=(rL Xb)) 0 rfl (λ_ s=>s.l.l.l.l.l.l.r)) (YG (XU (XU (Xd (r:=Xb) 1 rfl (λ_ s=>s.l.l.l.l.l.r)) (Xg 1)) (Xd (r:=Xb) 6 rfl (λ_ s=>s.r))) (Xg 63))))) λa54 v55=>(Zh (K:=K) (o:=(oF Xb)) (f:=λa74=>(Rs.ok (g15.2,a74))) 5 0 rfl rfl rfl (λ_ s=>s.l.l.l.r) (EvS.ev (EvB.sh (YG (Ev.toB (Za (Xd (r:=Xb) 7 rfl (λ_ s=>s.r)) (Xd (r:=Xb) 6 rfl (λ_ s=>s.l.r)))) (Yc (Xd (r:=(rV Xb)) 2 rfl (λ_ s=>s.l.l.l.l.l.r)) (Xd (r:=Xb) 6 rfl (λ_ s=>s.l.r)))))) λa72 C73=>(Xw (J:=_) (x16.2.2.1,(some v55),x16.2.1,C73) (g15.2,(g15.1++[a72])) rfl rfl (λ_ s=>(SC.i (SC.i (SC.i (SC.i (SC.i (SC.i (SC.i SC.t s.l.l.l.l.l.l.l.l.r) s.l.l.l.l.l.l.l.r) s.l.l.l.l.l.l.r) s.l.l.l.l.l.r) s.l.l.r) s.l.l.l.r) s.r)))))) λg76 x75=>(Xw (J:=_) (x75.2.2.1,x75.1,(x75.2.1),x75.2.2.2) (g76.2,g76.1) rfl rfl (λ_ s=>(SC.i (SC.i (SC.i (SC.i (SC.i (SC.i (SC.i SC.t s.l.l.l.l.l.l.r) s.l.l.l.l.l.r) s.l.l.l.l.r) s.l.l.l.r) s.l.l.r) s.r) s.l.r))))) λg78 x77=>(Xw (J:=_) ((some v18),x77.1,x77.2.1,(x77.2.2.1),x77.2.2.2) (g78.1,g78.2) rfl rfl (λ_ s=>(SC.i (SC.i (SC.i (SC.i (SC.i (SC.i SC.t s.l.l.l.l.l.l.r) s.l.l.l.l.l.r) s.l.l.l.l.r) s.l.l.l.r) s.l.r) s.r))))) λg79 x80=>(XC (Y2 (o:=(oL (oF Xb))) 5 0 rfl rfl (λ_ s=>s.l.r)))))))
theorem Jh:FnScope ["_law_names","_law_some","_law_left","_law_found","_law_k"] ["_law_names","_law_some"] (Xi KM):=⟨rfl,rfl,rfl,by decide+kernel,rfl,by decide+kernel,by decide+kernel⟩
theorem Be (D:Def K mg "_law_mixed" KM ["_law_names","_law_some"])(Y:Ecs XL K mg)(Z:Blt mg):Fn P w K mg base 1 "_law_mixed" ["_law_names","_law_some"] (sp2 (rV Xb) (rV Xb) (oL (oF Xb)) QU K):=by
 refine Zi D Jh (λvs H Q E h=>?_) (λf cdv A outer s H vs Q E hr h=>?_)
 ·obtain⟨v_0,v_1,a_0,a_1,b,rfl,_⟩:=h;rfl
 obtain⟨v_0,v_1,a_0,a_1,b,rfl,h_0,h_1,hm,q⟩:=h
 have hu:=hu8 hr
 have hu1:=YT hr
 refine⟨_,(Xa (Xm (i:=2) Jh.nd rfl (Or.inl rfl) (Yp (ZG K rfl) rfl Z.b_list PyProof.Rows.boot_list (Xc (pv 0) Xf)))
  (Xa (Xm (i:=3) Jh.nd rfl (Or.inl rfl) (Yq Xf))
  (Xa (Ye PassesOwn.never rfl (Zl rfl Z.b_range (Xc (XA (Xx K rfl) rfl Z.b_len PySem.boot_len (Xc (pv 0) Xf)) Xf)) (Xv (i:=4) Jh.nd rfl (Or.inl rfl))
   (Xa (X0 (YX PySem.F.plainAttrs_list PySem.F.slot_list_append PySem.F.type_list_append XH (pv 3) (Xc (YX PySem.F.plainAttrs_list PySem.F.slot_list_pop PySem.F.type_list_pop Gm (pv 2) (Xc (Xz Zo (XJ (XB K rfl) (pv 1) (Xz Yk (Xz YW Xh (pv 4)) Xh) (λ_ _=>rfl)) (XA (Xx K rfl) rfl Z.b_len PySem.boot_len (Xc (pv 2) Xf))) Xf)) Xf)))
   Xe))
  (Xa (XD (pv 3))
  Xe)))),?_⟩
 refine Y9 (S:=(SC.add (SC.add SC.nil K (rV Xb) v_0 a_0) K (rV Xb) v_1 a_1)) (σ:=[some v_0,some v_1,none,none,none]) 2 ?_ (SC.i (SC.i SC.t h_0) h_1) hm q rfl
 unfold QU
 exact(XZ (K:=K) (o:=(oL (oF Xb))) 2 1 (KR (EvS.ls (Xq (r:=(rV Xb)) 0 rfl (λ_ s=>s.l.r)))) (Nat.le_of_ble_eq_true rfl) λa1 v2 C3=>(XZ (K:=K) (o:=(oL (oF Xb))) 3 0 (Qk (o:=(oF Xb))) (Nat.le_of_ble_eq_true rfl) λa5 v6 C7=>(YN (K:=K) (J:=({oo:=λx10=>[x10.2.2.2.1,x10.2.2.2.2],ss:=λx10=>[some v_0,some v_1,some x10.2.2.1,some x10.2.1,x10.1],sc:=λg11 x10=>(SC.addO (SC.addO (SC.add (SC.add SC.nil K (rV Xb) v_0 a_0) K (rV Xb) v_1 a_1) K (oL (oF Xb)) x10.2.1 g11.1 x10.2.2.2.1) K (oL (oF Xb)) x10.2.2.1 g11.2 x10.2.2.2.2)}:Jn ((List Int)×(List Int)) (Option V×V×V×List Xn×List Xn))) (λ_=>tg1 4) ((none),v6,v2,C7,C3) (a5,a1) (Yy (Y3 (Xd (r:=(rV Xb)) 0 rfl (λ_ s=>s.l.l.l.r)))) rfl rfl (λ_ s=>(SC.i (SC.i (SC.i (SC.i SC.t s.l.l.l.r) s.l.l.r) s.r) s.l.r)) (λg12 x13 a14 v15=>(Bi (K:=K) (r:=Xb) (f:=λa26 a27=>(Rs.ok (a27,a26))) 2 1 3 0 (by decide) rfl rfl (λ_ s=>s.l.r) rfl rfl (λ_ s=>s.l.l.r) (YG (Yc (Xd (r:=(rV Xb)) 1 rfl (λ_ s=>s.l.l.l.r)) (XU (Yr (Xg 8) (Xd (r:=Xb) 4 rfl (λ_ s=>s.r))) (Xg 9))) (Y3 (X7 (o:=(oL (oF Xb))) 2 1 rfl rfl (λ_ s=>s.l.r)))) λa25 a26 C28 C29=>(Xw (J:=_) ((some v15),x13.2.1,x13.2.2.1,C29,C28) ((g12.1++[a25]),a26) rfl rfl (λ_ s=>(SC.i (SC.i (SC.i (SC.i SC.t s.l.l.l.l.l.l.r) s.l.l.l.l.l.r) s.r) s.l.r))))) λg32 x33=>(XC (Y2 (o:=(oL (oF Xb))) 3 0 rfl rfl (λ_ s=>s.l.r))))))
theorem JW:FnScope ["_law_names","_law_some","_law_rings","_law_left","_law_one","_law_walks","_law_k","_law_at","_law_passage"] ["_law_names","_law_some","_law_rings"] (Xi BK):=⟨rfl,rfl,rfl,by decide+kernel,rfl,by decide+kernel,by decide+kernel⟩
theorem Lj (D:Def K mg "_law_any" BK ["_law_names","_law_some","_law_rings"])(Y:Ecs XL K mg)(Z:Blt mg):Fn P w K mg base 1 "_law_any" ["_law_names","_law_some","_law_rings"] (sp3 (rV Xb) (rV Xb) Xb (oL (oL (oF Xb))) Ff K):=by
 refine Zi D JW (λvs H Q E h=>?_) (λf cdv A outer s H vs Q E hr h=>?_)
 ·obtain⟨v_0,v_1,v_2,a_0,a_1,a_2,b,rfl,_⟩:=h;rfl
 obtain⟨v_0,v_1,v_2,a_0,a_1,a_2,b,rfl,h_0,h_1,h_2,hm,q⟩:=h
 have hu:=hu8 hr
 have hu1:=YT hr
 refine⟨_,(Xa (Xm (i:=3) JW.nd rfl (Or.inl rfl) (Yq Xf))
  (Xa (Ye PassesOwn.never rfl (XM (K:=K) rfl (pv 0)) (Xv (i:=4) JW.nd rfl (Or.inl rfl))
   (Xa (X0 (YX PySem.F.plainAttrs_list PySem.F.slot_list_extend PySem.F.type_list_extend Km (pv 3) (Xc (Yq (Xc (pv 4) (Xc (Q6 ZN (pv 4)) Xf))) Xf JY)))
   Xe))
  (Xa (HY 5 (Xi BK) ["_law_names","_law_some","_law_rings","_law_left","_law_one","_law_walks","_law_k","_law_at","_law_passage"] ["_law_k"] [] rfl JW.nd rfl rfl (Zl rfl Z.b_range (Xc (pv 2) Xf)) (QN (by decide)) (λcl C s H ex E=>⟨Xv (i:=0) (show List.Nodup (["_law_k"]:List Str) by decide+kernel) rfl (Or.inl rfl),Qi,(Yq Xf)⟩))
  (Xa (Ye PassesOwn.never rfl (Zl rfl Z.b_range (Xc (Xz YW Xh (XA (Xx K rfl) rfl Z.b_len PySem.boot_len (Xc (pv 0) Xf))) Xf)) (Xv (i:=6) JW.nd rfl (Or.inl rfl))
   (Xa (Xm (i:=7) JW.nd rfl (Or.inl rfl) (Xz Yk (Xz YW Xh (pv 6)) Xh))
   (Xa (Xm (i:=8) JW.nd rfl (Or.inl rfl) (YX PySem.F.plainAttrs_list PySem.F.slot_list_pop PySem.F.type_list_pop Gm (pv 3) (Xc (Xz Zo (XJ (XB K rfl) (pv 1) (pv 7) (λ_ _=>rfl)) (XA (Xx K rfl) rfl Z.b_len PySem.boot_len (Xc (pv 3) Xf))) Xf)))
   (Xa (X0 (YX PySem.F.plainAttrs_list PySem.F.slot_list_append PySem.F.type_list_append XH (XJ (XB K rfl) (pv 5) (Xz Zo (XJ (XB K rfl) (pv 1) (Xz Yk (pv 7) Xh) (λ_ _=>rfl)) (pv 2)) (λ_ _=>rfl)) (Xc (pv 8) Xf)))
   Xe))))
  (Xa (XD (pv 5))
  Xe))))),?_⟩
 refine Y9 (S:=(SC.add (SC.add (SC.add SC.nil K (rV Xb) v_0 a_0) K (rV Xb) v_1 a_1) K Xb v_2 a_2)) (σ:=[some v_0,some v_1,some v_2,none,none,none,none,none,none]) 2 ?_ (SC.i (SC.i (SC.i SC.t h_0) h_1) h_2) hm q rfl
 unfold Ff
 exact(XZ (K:=K) (o:=(oL (oF Xb))) 3 1 (Qk (o:=(oF Xb))) (Nat.le_of_ble_eq_true rfl) λa1 v2 C3=>(YN (K:=K) (J:=({oo:=λx4=>[[],x4.2.2],ss:=λx4=>[some v_0,some v_1,some v_2,some x4.2.1,x4.1,none,none,none,none],sc:=λg5 x4=>(SC.addO (SC.add (SC.add (SC.add SC.nil K (rV Xb) v_0 a_0) K (rV Xb) v_1 a_1) K Xb v_2 a_2) K (oL (oF Xb)) x4.2.1 g5 x4.2.2)}:Jn ((List Int)) (Option V×V×List Xn))) (λ_=>tg1 4) ((none),v2,C3) (a1) (XF (Xq (r:=(rV Xb)) 0 rfl (λ_ s=>s.l.l.l.r))) rfl rfl (λ_ s=>(SC.i (SC.i (SC.i (SC.i SC.t s.l.l.l.r) s.l.l.r) s.l.r) s.r)) (λg6 x7 a8 v9=>(B6 (K:=K) (o:=(oF Xb)) (f:=λa18=>(Rs.ok (a18))) 3 1 rfl rfl rfl (λ_ s=>s.l.r) (Q2 (Xy (Xq (r:=Xb) 4 rfl (λ_ s=>s.r)) (Xy (EvB.sh (Y0 (Xd (r:=Xb) 4 rfl (λ_ s=>s.r)))) Y4))) λa16 C17=>(Xw (J:=_) ((some v9),x7.2.1,C17) ((g6++a16)) rfl rfl (λ_ s=>(SC.i (SC.i (SC.i (SC.i SC.t s.l.l.l.l.l.r) s.l.l.l.l.r) s.l.l.l.r) s.r))))) λg19 x20=>(XZ (K:=K) (o:=(oL (oL (oF Xb)))) 5 0 (Qj (λ_=>tg1 0) (Yy (Xd (r:=Xb) 2 rfl (λ_ s=>s.l.r))) (λC25 a26 v27=>(Qk (o:=(oF Xb))))) (Nat.le_of_ble_eq_true rfl) λa21 v22 C23=>(YN (K:=K) (J:=({oo:=λx33=>[x33.2.2.2.2.2.2,x33.2.2.2.2.2.1],ss:=λx33=>[some v_0,some v_1,some v_2,some x33.2.2.2.1,x20.1,some x33.2.2.2.2.1,x33.1,x33.2.1,x33.2.2.1],sc:=λg34 x33=>(SC.addO (SC.addO (SC.add (SC.add (SC.add SC.nil K (rV Xb) v_0 a_0) K (rV Xb) v_1 a_1) K Xb v_2 a_2) K (oL (oF Xb)) x33.2.2.2.1 g34.1 x33.2.2.2.2.2.1) K (oL (oL (oF Xb))) x33.2.2.2.2.1 g34.2 x33.2.2.2.2.2.2)}:Jn ((List Int)×(List (List Int))) (Option V×Option V×Option V×V×V×List Xn×List Xn))) (λ_=>tg1 6) ((none),(none),(none),x20.2.1,v22,x20.2.2,C23) (g19,a21) (Yy (Yr (Xg 2) (Y3 (Xd (r:=(rV Xb)) 0 rfl (λ_ s=>s.l.l.l.l.r))))) rfl rfl (λ_ s=>(SC.i (SC.i (SC.i (SC.i (SC.i SC.t s.l.l.l.l.r) s.l.l.l.r) s.l.l.r) s.l.r) s.r)) (λg35 x36 a37 v38=>(XI (K:=K) (r:=Xb) 7 (EvB.sh (XU (Yr (Xg 4) (Xd (r:=Xb) 6 rfl (λ_ s=>s.r))) (Xg 5))) λa39 v40=>(LE (K:=K) (r:=Xb) (f:=(λp55=>(λa50 a51=>(Rs.bind (Rs.bind (Rs.bind (Rs.ok a_1) λx58=>(Rs.bind (Rs.bind (Rs.ok a39) λx56=>(Rs.bind (Rs.ok (1:Int)) λx57=>(Rs.ok (x56+x57)))) λx59=>(atR x58 x59))) λx60=>(Rs.bind (Rs.ok a_2) λx61=>(V4 x60 x61))) λx63=>(Rs.bind (atR g35.2 x63) λx64=>(Rs.bind (Rs.ok a50) λx62=>(chk (x64.length<sizeLine) (Rs.bind (Vw g35.2 x63 (x64++[x62])) λa65=>(Rs.ok (a51,a65)))))))) p55.1 p55.2)) 8 3 1 rfl rfl (λ_ s=>s.l.l.l.r) (YG (Yc (Xd (r:=(rV Xb)) 1 rfl (λ_ s=>s.l.l.l.l.l.r)) (Xd (r:=Xb) 7 rfl (λ_ s=>s.r))) (Y3 (X7 (o:=(oL (oF Xb))) 3 1 rfl rfl (λ_ s=>s.l.l.l.r)))) λa50 a51 v52 C53=>(VX (K:=K) (r:=Xb) 5 0 rfl rfl (λ_ s=>s.l.l.l.l.r) (Xq (r:=Xb) 8 rfl (λ_ s=>s.l.r)) (YG (Yc (Xd (r:=(rV Xb)) 1 rfl (λ_ s=>s.l.l.l.l.l.l.l.r)) (XU (Xd (r:=Xb) 7 rfl (λ_ s=>s.l.l.r)) (Xg 1))) (Xd (r:=Xb) 2 rfl (λ_ s=>s.l.l.l.l.l.l.r))) λa65 C66=>(Xw (J:=_) ((some v38),(some v40),(some v52),x36.2.2.2.1,x36.2.2.2.2.1,C53,C66) (a51,a65) rfl rfl (λ_ s=>(SC.i (SC.i (SC.i (SC.i (SC.i SC.t s.l.l.l.l.l.l.l.l.l.r) s.l.l.l.l.l.l.l.l.r) s.l.l.l.l.l.l.l.r) s.l.r) s.r))))))) λg67 x68=>(XC (Y2 (o:=(oL (oL (oF Xb)))) 5 0 rfl rfl (λ_ s=>s.r)))))))
theorem Yg:FnScope ["_law_names","_law_signs","_law_some","_law_strands","_law_seen","_law_walks","_law_start","_law_walk","_law_at","_law_k","_law_low"] ["_law_names","_law_signs","_law_some","_law_strands"] (Xi JQ):=⟨rfl,rfl,rfl,by decide+kernel,rfl,by decide+kernel,by decide+kernel⟩
theorem GX (D:Def K mg "_law_plaited" JQ ["_law_names","_law_signs","_law_some","_law_strands"])(Y:Ecs XL K mg)(Z:Blt mg):Fn P w K mg base 1 "_law_plaited" ["_law_names","_law_signs","_law_some","_law_strands"] (sp4 (rV Xb) (rD Xb) (rV Xb) Xb (oL (oL (oF Xb))) Zx K):=by
 refine Zi D Yg (λvs H Q E h=>?_) (λf cdv A outer s H vs Q E hr h=>?_)
 ·obtain⟨v_0,v_1,v_2,v_3,a_0,a_1,a_2,a_3,b,rfl,_⟩:=h;rfl
 obtain⟨v_0,v_1,v_2,v_3,a_0,a_1,a_2,a_3,b,rfl,h_0,h_1,h_2,h_3,hm,q⟩:=h
 have hu:=hu8 hr
 have hu1:=YT hr
 refine⟨_,(Xa (Xm (i:=4) Yg.nd rfl (Or.inl rfl) (Xz Eg (Yq (Xc ZP Xf)) (pv 3)))
  (Xa (Xm (i:=5) Yg.nd rfl (Or.inl rfl) (Yq Xf))
  (Xa (Ye PassesOwn.never rfl (Zl rfl Z.b_range (Xc (pv 3) Xf)) (Xv (i:=6) Yg.nd rfl (Or.inl rfl))
   (Xa (Yi (Zd (YL (XJ (XB K rfl) (pv 4) (pv 6) (λ_ _=>rfl))))
    (Xa (Xm (i:=7) Yg.nd rfl (Or.inl rfl) (Yq Xf))
    (Xa (Xm (i:=8) Yg.nd rfl (Or.inl rfl) (pv 6))
    (Xa (Bw PassesOwn.never (Zd (YL (XJ (XB K rfl) (pv 4) (pv 8) (λ_ _=>rfl))))
     (Xa (IR ZP (Ij (pv 4) (pv 8) CQ))
     (Xa (Ye PassesOwn.never rfl (Zl rfl Z.b_range (Xc (XA (Xx K rfl) rfl Z.b_len PySem.boot_len (Xc (pv 0) Xf)) Xf)) (Xv (i:=9) Yg.nd rfl (Or.inl rfl))
      (Xa (Xm (i:=10) Yg.nd rfl (Or.inl rfl) (Xz Zo (XJ (XB K rfl) (pv 2) (Xz Yk (Xz YW Xh (pv 9)) Xh) (λ_ _=>rfl)) (Xz Ki (pv 3) Xh)))
      (Xa (Yi (XE Fj (pv 8) (pv 10) (XQ _))
       (Xa (X0 (YX PySem.F.plainAttrs_list PySem.F.slot_list_append PySem.F.type_list_append XH (pv 7) (Xc (Xz YW (XJ (XB K rfl) (pv 0) (pv 9) (λ_ _=>rfl)) (Ju hu1 (pv 1) (XJ (XB K rfl) (pv 0) (pv 9) (λ_ _=>rfl)) (λ_ _=>rfl))) Xf)))
       (Xa (Xm (i:=8) Yg.nd rfl (Or.inl rfl) (Xz Yk (pv 10) Xh))
       Xe))
       (Xa (Yi (XE Fj (pv 8) (Xz Yk (pv 10) Xh) (XQ _))
        (Xa (X0 (YX PySem.F.plainAttrs_list PySem.F.slot_list_append PySem.F.type_list_append XH (pv 7) (Xc (Xz YW (Q6 ZN (XJ (XB K rfl) (pv 0) (pv 9) (λ_ _=>rfl))) (Ju hu1 (pv 1) (XJ (XB K rfl) (pv 0) (pv 9) (λ_ _=>rfl)) (λ_ _=>rfl))) Xf)))
        (Xa (Xm (i:=8) Yg.nd rfl (Or.inl rfl) (pv 10))
        Xe))
        Xe)
       Xe))
      Xe)))
     Xe)))
    (Xa (X0 (YX PySem.F.plainAttrs_list PySem.F.slot_list_append PySem.F.type_list_append XH (pv 5) (Xc (pv 7) Xf)))
    Xe))))
    Xe)
   Xe))
  (Xa (XD (pv 5))
  Xe)))),?_⟩
 refine Y9 (S:=(SC.add (SC.add (SC.add (SC.add SC.nil K (rV Xb) v_0 a_0) K (rD Xb) v_1 a_1) K (rV Xb) v_2 a_2) K Xb v_3 a_3)) (σ:=[some v_0,some v_1,some v_2,some v_3,none,none,none,none,none,none,none]) 3 ?_ (SC.i (SC.i (SC.i (SC.i SC.t h_0) h_1) h_2) h_3) hm q rfl
 unfold Zx
 exact(XZ (K:=K) (o:=(oL (oF Xl))) 4 1 (Ez (Ev.ls (Q2 (Xy (EvB.sh (YM false)) Y4))) (Xd (r:=Xb) 3 rfl (λ_ s=>s.r))) (Nat.le_of_ble_eq_true rfl) λa1 v2 C3=>(XZ (K:=K) (o:=(oL (oL (oF Xb)))) 5 0 (Qk (o:=(oL (oF Xb)))) (Nat.le_of_ble_eq_true rfl) λa9 v10 C11=>(YN (K:=K) (J:=({oo:=λx13=>[x13.2.2.2.2.2.2.2.2,x13.2.2.2.2.2.2.2.1,[]],ss:=λx13=>[some v_0,some v_1,some v_2,some v_3,some x13.2.2.2.1,some x13.2.2.2.2.2.1,x13.1,x13.2.1,x13.2.2.1,x13.2.2.2.2.1,x13.2.2.2.2.2.2.1],sc:=λg14 x13=>(SC.addO (SC.addO (SC.add (SC.add (SC.add (SC.add SC.nil K (rV Xb) v_0 a_0) K (rD Xb) v_1 a_1) K (rV Xb) v_2 a_2) K Xb v_3 a_3) K (oL (oF Xl)) x13.2.2.2.1 g14.1 x13.2.2.2.2.2.2.2.1) K (oL (oL (oF Xb))) x13.2.2.2.2.2.1 g14.2 x13.2.2.2.2.2.2.2.2)}:Jn ((List Bool)×(List (List Int))) (Option V×Option V×Option V×V×Option V×V×Option V×List Xn×List Xn))) (λ_=>tg1 6) ((none),(none),(none),v2,(none),v10,(none),C3,C11) (a1,a9) (Yy (Xd (r:=Xb) 3 rfl (λ_ s=>s.l.l.r))) rfl rfl (λ_ s=>(SC.i (SC.i (SC.i (SC.i (SC.i (SC.i SC.t s.l.l.l.l.l.r) s.l.l.l.l.r) s.l.l.l.r) s.l.l.r) s.l.r) s.r)) (λg15 x16 a17 v18=>(Yx (J:=({oo:=λx23=>[x23.2.2.2.2.2.2.2,x23.2.2.2.2.2.2.1,[]],ss:=λx23=>[some v_0,some v_1,some v_2,some v_3,some x23.2.2.1,some x23.2.2.2.2.1,some v18,x23.1,x23.2.1,x23.2.2.2.1,x23.2.2.2.2.2.1],sc:=λg24 x23=>(SC.addO (SC.addO (SC.add (SC.add (SC.add (SC.add (SC.add SC.nil K (rV Xb) v_0 a_0) K (rD Xb) v_1 a_1) K (rV Xb) v_2 a_2) K Xb v_3 a_3) K Xb v18 a17) K (oL (oF Xl)) x23.2.2.1 g24.1 x23.2.2.2.2.2.2.1) K (oL (oL (oF Xb))) x23.2.2.2.2.1 g24.2 x23.2.2.2.2.2.2.2)}:Jn ((List Bool)×(List (List Int))) (Option V×Option V×V×Option V×V×Option V×List Xn×List Xn))) (Zk (Fd:=FNd ({oo:=λx23=>[x23.2.2.2.2.2.2.2,x23.2.2.2.2.2.2.1,[]],ss:=λx23=>[some v_0,some v_1,some v_2,some v_3,some x23.2.2.1,some x23.2.2.2.2.1,some v18,x23.1,x23.2.1,x23.2.2.2.1,x23.2.2.2.2.2.1],sc:=λg24 x23=>(SC.addO (SC.addO (SC.add (SC.add (SC.add (SC.add (SC.add SC.nil K (rV Xb) v_0 a_0) K (rD Xb) v_1 a_1) K (rV Xb) v_2 a_2) K Xb v_3 a_3) K Xb v18 a17) K (oL (oF Xl)) x23.2.2.1 g24.1 x23.2.2.2.2.2.2.1) K (oL (oL (oF Xb))) x23.2.2.2.2.1 g24.2 x23.2.2.2.2.2.2.2)}:Jn ((List Bool)×(List (List Int))) (Option V×Option V×V×Option V×V×Option V×List Xn×List Xn))) (Yz (Zm (K:=K) (Yc (X7 (o:=(oL (oF Xl))) 4 1 rfl rfl (λ_ s=>s.l.l.r)) (Xd (r:=Xb) 6 rfl (λ_ s=>s.r))))) (XZ (K:=K) (o:=(oL (oF Xb))) 7 2 (Qk (o:=(oF Xb))) (Nat.le_of_ble_eq_true rfl) λa25 v26 C27=>(XI (K:=K) (r:=Xb) 8 (Xq (r:=Xb) 6 rfl (λ_ s=>s.l.r)) λa28 v29=>(BP (J:=({oo:=λx30=>[x16.2.2.2.2.2.2.2.2,x30.2.2.2.2.2.1,x30.2.2.2.2.2.2],ss:=λx30=>[some v_0,some v_1,some v_2,some v_3,some x30.1,some x16.2.2.2.2.2.1,some v18,some x30.2.2.2.2.1,some x30.2.2.2.1,x30.2.1,x30.2.2.1],sc:=λg31 x30=>(SC.addO (SC.add (SC.addO (SC.add (SC.addO (SC.add (SC.add (SC.add (SC.add SC.nil K (rV Xb) v_0 a_0) K (rD Xb) v_1 a_1) K (rV Xb) v_2 a_2) K Xb v_3 a_3) K (oL (oL (oF Xb))) x16.2.2.2.2.2.1 g15.2 x16.2.2.2.2.2.2.2.2) K Xb v18 a17) K (oL (oF Xl)) x30.1 g31.1 x30.2.2.2.2.2.1) K Xb x30.2.2.2.1 g31.2.1) K (oL (oF Xb)) x30.2.2.2.2.1 g31.2.2 x30.2.2.2.2.2.2)}:Jn ((List Bool)×Int×(List Int)) (V×Option V×Option V×V×V×List Xn×List Xn))) (a_3.natAbs+2) (x16.2.2.2.1,(x16.2.2.2.2.1),(x16.2.2.2.2.2.2.1),v29,v26,x16.2.2.2.2.2.2.2.1,C27) (g15.1,a28,a25) rfl rfl (λ_ s=>(SC.i (SC.i (SC.i (SC.i (SC.i (SC.i (SC.i (SC.i (SC.i SC.t s.l.l.l.l.l.l.l.l.r) s.l.l.l.l.l.l.l.r) s.l.l.l.l.l.l.r) s.l.l.l.l.l.r) s.l.l.l.r) s.l.l.r) s.l.l.l.l.r) s.r) s.l.r)) (λg32 x33=>(Yz (Zm (K:=K) (Yc (X7 (o:=(oL (oF Xl))) 4 1 rfl rfl (λ_ s=>s.l.l.r)) (Xd (r:=Xb) 8 rfl (λ_ s=>s.l.r)))))) (λg32 x33=>(Bh (K:=K) (o:=(oF Xl)) 4 1 rfl rfl (λ_ s=>s.l.l.r) (EvS.ev (EvB.sh (YM true))) (λ_=>(Xd (r:=Xb) 8 rfl (λ_ s=>s.l.r))) λa39 C40=>(YN (K:=K) (J:=({oo:=λx43=>[x16.2.2.2.2.2.2.2.2,C40,x43.2.2.2.2],ss:=λx43=>[some v_0,some v_1,some v_2,some v_3,some x33.1,some x16.2.2.2.2.2.1,some v18,some x43.2.2.2.1,some x43.2.2.1,x43.1,x43.2.1],sc:=λg44 x43=>(SC.addO (SC.add (SC.addO (SC.add (SC.addO (SC.add (SC.add (SC.add (SC.add SC.nil K (rV Xb) v_0 a_0) K (rD Xb) v_1 a_1) K (rV Xb) v_2 a_2) K Xb v_3 a_3) K (oL (oL (oF Xb))) x16.2.2.2.2.2.1 g15.2 x16.2.2.2.2.2.2.2.2) K Xb v18 a17) K (oL (oF Xl)) x33.1 a39 C40) K Xb x43.2.2.1 g44.1) K (oL (oF Xb)) x43.2.2.2.1 g44.2 x43.2.2.2.2)}:Jn (Int×(List Int)) (Option V×Option V×V×V×List Xn))) (λ_=>tg1 9) ((x33.2.1),(x33.2.2.1),x33.2.2.2.1,x33.2.2.2.2.1,x33.2.2.2.2.2.2) (g32.2.1,g32.2.2) (Yy (Y3 (Xd (r:=(rV Xb)) 0 rfl (λ_ s=>s.l.l.l.l.l.l.l.l.l.r)))) rfl rfl (λ_ s=>(SC.i (SC.i (SC.i (SC.i (SC.i (SC.i (SC.i (SC.i (SC.i SC.t s.l.l.l.l.l.l.l.l.l.r) s.l.l.l.l.l.l.l.l.r) s.l.l.l.l.l.l.l.r) s.l.l.l.l.l.l.r) s.l.l.l.l.l.r) s.l.l.l.l.r) s.r) s.l.l.r) s.l.r)) (λg45 x46 a47 v48=>(XI (K:=K) (r:=Xb) 10 (EvB.sh (YG (Yc (Xd (r:=(rV Xb)) 2 rfl (λ_ s=>s.l.l.l.l.l.l.l.r)) (XU (Yr (Xg 8) (Xd (r:=Xb) 9 rfl (λ_ s=>s.r))) (Xg 10))) (J1 (Xd (r:=Xb) 3 rfl (λ_ s=>s.l.l.l.l.l.l.r)) (Xg 1)))) λa49 v50=>(Yx (J:=({oo:=λx64=>[x16.2.2.2.2.2.2.2.2,C40,x64.2.2],ss:=λx64=>[some v_0,some v_1,some v_2,some v_3,some x33.1,some x16.2.2.2.2.2.1,some v18,some x64.2.1,some x64.1,some v48,some v50],sc:=λg65 x64=>(SC.addO (SC.add (SC.add (SC.add (SC.addO (SC.add (SC.addO (SC.add (SC.add (SC.add (SC.add SC.nil K (rV Xb) v_0 a_0) K (rD Xb) v_1 a_1) K (rV Xb) v_2 a_2) K Xb v_3 a_3) K (oL (oL (oF Xb))) x16.2.2.2.2.2.1 g15.2 x16.2.2.2.2.2.2.2.2) K Xb v18 a17) K (oL (oF Xl)) x33.1 a39 C40) K Xb v48 a47) K Xb v50 a49) K Xb x64.1 g65.1) K (oL (oF Xb)) x64.2.1 g65.2 x64.2.2)}:Jn (Int×(List Int)) (V×V×List Xn))) (Zk (Fd:=FNd ({oo:=λx64=>[x16.2.2.2.2.2.2.2.2,C40,x64.2.2],ss:=λx64=>[some v_0,some v_1,some v_2,some v_3,some x33.1,some x16.2.2.2.2.2.1,some v18,some x64.2.1,some x64.1,some v48,some v50],sc:=λg65 x64=>(SC.addO (SC.add (SC.add (SC.add (SC.addO (SC.add (SC.addO (SC.add (SC.add (SC.add (SC.add SC.nil K (rV Xb) v_0 a_0) K (rD Xb) v_1 a_1) K (rV Xb) v_2 a_2) K Xb v_3 a_3) K (oL (oL (oF Xb))) x16.2.2.2.2.2.1 g15.2 x16.2.2.2.2.2.2.2.2) K Xb v18 a17) K (oL (oF Xl)) x33.1 a39 C40) K Xb v48 a47) K Xb v50 a49) K Xb x64.1 g65.1) K (oL (oF Xb)) x64.2.1 g65.2 x64.2.2)}:Jn (Int×(List Int)) (V×V×List Xn))) (Xs (K:=K) (Vu (Xd (r:=Xb) 8 rfl (λ_ s=>s.l.l.l.r)) (Xd (r:=Xb) 10 rfl (λ_ s=>s.r)))) (Zh (K:=K) (o:=(oF Xb)) (f:=λa76=>(Rs.bind (Rs.bind (Rs.ok a49) λx79=>(Rs.bind (Rs.ok (1:Int)) λx80=>(Rs.ok (x79+x80)))) λa77=>(Rs.ok (a77,a76)))) 7 2 rfl rfl rfl (λ_ s=>s.l.l.r) (EvS.ev (EvB.sh (Yr (Yc (Xd (r:=(rV Xb)) 0 rfl (λ_ s=>s.l.l.l.l.l.l.l.l.l.l.r)) (Xd (r:=Xb) 9 rfl (λ_ s=>s.l.r))) (Qr (Xd (r:=(rD Xb)) 1 rfl (λ_ s=>s.l.l.l.l.l.l.l.l.l.r)) (Yc (Xd (r:=(rV Xb)) 0 rfl (λ_ s=>s.l.l.l.l.l.l.l.l.l.l.r)) (Xd (r:=Xb) 9 rfl (λ_ s=>s.l.r))))))) λa74 C75=>(XI (K:=K) (r:=Xb) 8 (EvB.sh (XU (Xd (r:=Xb) 10 rfl (λ_ s=>s.l.r)) (Xg 1))) λa77 v78=>(Xw (J:=_) (v78,x46.2.2.2.1,C75) (a77,(g45.2++[a74])) rfl rfl (λ_ s=>(SC.i (SC.i (SC.i (SC.i (SC.i (SC.i (SC.i (SC.i (SC.i (SC.i (SC.i SC.t s.l.l.l.l.l.l.l.l.l.l.l.l.r) s.l.l.l.l.l.l.l.l.l.l.l.r) s.l.l.l.l.l.l.l.l.l.l.r) s.l.l.l.l.l.l.l.l.l.r) s.l.l.l.l.l.l.l.l.r) s.l.l.l.l.l.l.l.r) s.l.l.l.l.l.l.r) s.l.l.l.r) s.l.l.r) s.r) s.l.r))))) (Yx (J:=({oo:=λx86=>[x16.2.2.2.2.2.2.2.2,C40,x86.2.2],ss:=λx86=>[some v_0,some v_1,some v_2,some v_3,some x33.1,some x16.2.2.2.2.2.1,some v18,some x86.2.1,some x86.1,some v48,some v50],sc:=λg87 x86=>(SC.addO (SC.add (SC.add (SC.add (SC.addO (SC.add (SC.addO (SC.add (SC.add (SC.add (SC.add SC.nil K (rV Xb) v_0 a_0) K (rD Xb) v_1 a_1) K (rV Xb) v_2 a_2) K Xb v_3 a_3) K (oL (oL (oF Xb))) x16.2.2.2.2.2.1 g15.2 x16.2.2.2.2.2.2.2.2) K Xb v18 a17) K (oL (oF Xl)) x33.1 a39 C40) K Xb v48 a47) K Xb v50 a49) K Xb x86.1 g87.1) K (oL (oF Xb)) x86.2.1 g87.2 x86.2.2)}:Jn (Int×(List Int)) (V×V×List Xn))) (Zk (Fd:=FNd ({oo:=λx86=>[x16.2.2.2.2.2.2.2.2,C40,x86.2.2],ss:=λx86=>[some v_0,some v_1,some v_2,some v_3,some x33.1,some x16.2.2.2.2.2.1,some v18,some x86.2.1,some x86.1,some v48,some v50],sc:=λg87 x86=>(SC.addO (SC.add (SC.add (SC.add (SC.addO (SC.add (SC.addO (SC.add (SC.add (SC.add (SC.add SC.nil K (rV Xb) v_0 a_0) K (rD Xb) v_1 a_1) K (rV Xb) v_2 a_2) K Xb v_3 a_3) K (oL (oL (oF Xb))) x16.2.2.2.2.2.1 g15.2 x16.2.2.2.2.2.2.2.2) K Xb v18 a17) K (oL (oF Xl)) x33.1 a39 C40) K Xb v48 a47) K Xb v50 a49) K Xb x86.1 g87.1) K (oL (oF Xb)) x86.2.1 g87.2 x86.2.2)}:Jn (Int×(List Int)) (V×V×List Xn))) (Xs (K:=K) (Vu (Xd (r:=Xb) 8 rfl (λ_ s=>s.l.l.l.r)) (XU (Xd (r:=Xb) 10 rfl (λ_ s=>s.r)) (Xg 1)))) (Zh (K:=K) (o:=(oF Xb)) (f:=λa99=>(Rs.bind (Rs.ok a49) λa100=>(Rs.ok (a100,a99)))) 7 2 rfl rfl rfl (λ_ s=>s.l.l.r) (EvS.ev (EvB.sh (Yr (Y0 (Yc (Xd (r:=(rV Xb)) 0 rfl (λ_ s=>s.l.l.l.l.l.l.l.l.l.l.r)) (Xd (r:=Xb) 9 rfl (λ_ s=>s.l.r)))) (Qr (Xd (r:=(rD Xb)) 1 rfl (λ_ s=>s.l.l.l.l.l.l.l.l.l.r)) (Yc (Xd (r:=(rV Xb)) 0 rfl (λ_ s=>s.l.l.l.l.l.l.l.l.l.l.r)) (Xd (r:=Xb) 9 rfl (λ_ s=>s.l.r))))))) λa97 C98=>(XI (K:=K) (r:=Xb) 8 (Xq (r:=Xb) 10 rfl (λ_ s=>s.l.r)) λa100 v101=>(Xw (J:=_) (v101,x46.2.2.2.1,C98) (a100,(g45.2++[a97])) rfl rfl (λ_ s=>(SC.i (SC.i (SC.i (SC.i (SC.i (SC.i (SC.i (SC.i (SC.i (SC.i (SC.i SC.t s.l.l.l.l.l.l.l.l.l.l.l.l.r) s.l.l.l.l.l.l.l.l.l.l.l.r) s.l.l.l.l.l.l.l.l.l.l.r) s.l.l.l.l.l.l.l.l.l.r) s.l.l.l.l.l.l.l.l.r) s.l.l.l.l.l.l.l.r) s.l.l.l.l.l.l.r) s.l.l.l.r) s.l.l.r) s.r) s.l.r))))) (Xw (J:=_) (x46.2.2.1,x46.2.2.2.1,x46.2.2.2.2) (g45.1,g45.2) rfl rfl (λ_ s=>(SC.i (SC.i (SC.i (SC.i (SC.i (SC.i (SC.i (SC.i (SC.i (SC.i (SC.i SC.t s.l.l.l.l.l.l.l.l.l.l.r) s.l.l.l.l.l.l.l.l.l.r) s.l.l.l.l.l.l.l.l.r) s.l.l.l.l.l.l.l.r) s.l.l.l.l.l.l.r) s.l.l.l.l.l.r) s.l.l.l.l.r) s.l.r) s.r) s.l.l.l.r) s.l.l.r)))) λg103 x102=>(Xw (J:=_) (x102.1,x102.2.1,x102.2.2) (g103.1,g103.2) rfl rfl (λ_ s=>(SC.i (SC.i (SC.i (SC.i (SC.i (SC.i (SC.i (SC.i (SC.i (SC.i (SC.i SC.t s.l.l.l.l.l.l.l.l.l.l.r) s.l.l.l.l.l.l.l.l.l.r) s.l.l.l.l.l.l.l.l.r) s.l.l.l.l.l.l.l.r) s.l.l.l.l.l.l.r) s.l.l.l.l.l.r) s.l.l.l.l.r) s.l.l.l.r) s.l.l.r) s.l.r) s.r))))) λg105 x104=>(Xw (J:=_) ((some v48),(some v50),x104.1,x104.2.1,x104.2.2) (g105.1,g105.2) rfl rfl (λ_ s=>(SC.i (SC.i (SC.i (SC.i (SC.i (SC.i (SC.i (SC.i (SC.i SC.t s.l.l.l.l.l.l.l.l.l.l.r) s.l.l.l.l.l.l.l.l.l.r) s.l.l.l.l.l.l.l.l.r) s.l.l.l.l.l.l.l.r) s.l.l.l.l.l.l.r) s.l.l.l.l.l.r) s.l.l.l.l.r) s.l.r) s.r)))))) λg106 x107=>(Xw (J:=_) (x33.1,(x107.1),(x107.2.1),x107.2.2.1,x107.2.2.2.1,C40,x107.2.2.2.2) (a39,g106.1,g106.2) rfl rfl (λ_ s=>(SC.i (SC.i (SC.i (SC.i (SC.i (SC.i (SC.i (SC.i (SC.i SC.t s.l.l.l.l.l.l.l.l.r) s.l.l.l.l.l.l.l.r) s.l.l.l.l.l.l.r) s.l.l.l.l.l.r) s.l.l.l.l.r) s.l.l.l.r) s.l.l.r) s.l.r) s.r)))))) λg109 x110=>(Zh (K:=K) (o:=(oL (oF Xb))) (f:=λa113=>(Rs.ok (g109.1,a113))) 5 0 rfl rfl rfl (λ_ s=>s.l.l.l.l.r) (Y2 (o:=(oL (oF Xb))) 7 2 rfl rfl (λ_ s=>s.r)) λa111 C112=>(Xw (J:=_) ((some x110.2.2.2.2.1),(some x110.2.2.2.1),x110.1,(x110.2.1),x16.2.2.2.2.2.1,(x110.2.2.1),x110.2.2.2.2.2.1,C112) (g109.1,(g15.2++[a111])) rfl rfl (λ_ s=>(SC.i (SC.i (SC.i (SC.i (SC.i (SC.i (SC.i SC.t s.l.l.l.l.l.l.l.l.l.r) s.l.l.l.l.l.l.l.l.r) s.l.l.l.l.l.l.l.r) s.l.l.l.l.l.l.r) s.l.l.l.l.r) s.l.l.l.r) s.r))))))) (Xw (J:=_) ((x16.2.1),(x16.2.2.1),x16.2.2.2.1,(x16.2.2.2.2.1),x16.2.2.2.2.2.1,(x16.2.2.2.2.2.2.1),x16.2.2.2.2.2.2.2.1,x16.2.2.2.2.2.2.2.2) (g15.1,g15.2) rfl rfl (λ_ s=>(SC.i (SC.i (SC.i (SC.i (SC.i (SC.i (SC.i SC.t s.l.l.l.l.l.l.r) s.l.l.l.l.l.r) s.l.l.l.l.r) s.l.l.l.r) s.r) s.l.l.r) s.l.r)))) λg115 x114=>(Xw (J:=_) ((some v18),(x114.1),(x114.2.1),x114.2.2.1,(x114.2.2.2.1),x114.2.2.2.2.1,(x114.2.2.2.2.2.1),x114.2.2.2.2.2.2.1,x114.2.2.2.2.2.2.2) (g115.1,g115.2) rfl rfl (λ_ s=>(SC.i (SC.i (SC.i (SC.i (SC.i (SC.i SC.t s.l.l.l.l.l.l.r) s.l.l.l.l.l.r) s.l.l.l.l.r) s.l.l.l.r) s.l.r) s.r))))) λg116 x117=>(XC (Y2 (o:=(oL (oL (oF Xb)))) 5 0 rfl rfl (λ_ s=>s.r))))))
theorem Yu:FnScope ["_law_script","_law_place","_law_most","_law_sizes","_law_some","_law_names","_law_signs","_law_last","_law_k","_law_step","_law_walks","_law_rings"] ["_law_script","_law_place","_law_most"] (Xi V1):=⟨rfl,rfl,rfl,by decide+kernel,rfl,by decide+kernel,by decide+kernel⟩
theorem Bm (D:Def K mg "_law_drawn" V1 ["_law_script","_law_place","_law_most"])(g_row:Fn P w K mg base 2 "_law_row" ["_law_script","_law_place","_law_sizes"] (sp3 (rL Xb) Xb (rV Xb) (oL (oF Xb)) Kh K))(g_plaited:Fn P w K mg base 1 "_law_plaited" ["_law_names","_law_signs","_law_some","_law_strands"] (sp4 (rV Xb) (rD Xb) (rV Xb) Xb (oL (oL (oF Xb))) Zx K))(g_any:Fn P w K mg base 1 "_law_any" ["_law_names","_law_some","_law_rings"] (sp3 (rV Xb) (rV Xb) Xb (oL (oL (oF Xb))) Ff K))(g_mixed:Fn P w K mg base 1 "_law_mixed" ["_law_names","_law_some"] (sp2 (rV Xb) (rV Xb) (oL (oF Xb)) QU K))(Y:Ecs XL K mg)(Z:Blt mg):Fn P w K mg base 3 "_law_drawn" ["_law_script","_law_place","_law_most"] (sp3 (rL Xb) Xb Xb (oT2 (oL (oL (oF Xb))) (oL (oF (rP2 Xb Xb)))) QW K):=by
 refine Zi D Yu (λvs H Q E h=>?_) (λf cdv A outer s H vs Q E hr h=>?_)
 ·obtain⟨v_0,v_1,v_2,a_0,a_1,a_2,b,rfl,_⟩:=h;rfl
 obtain⟨v_0,v_1,v_2,a_0,a_1,a_2,b,rfl,h_0,h_1,h_2,hm,q⟩:=h
 have hu:=hu8 hr
 have hu1:=YT hr
 refine⟨_,(Xa (Xm (i:=3) Yu.nd rfl (Or.inl rfl) (Yq (Xc (Xz Yk (pv 2) Xh) (Xc Xh (Xc Xh (Xc Xh (Xc Xh Xf)))))))
  (Xa (Xm (i:=4) Yu.nd rfl (Or.inl rfl) (YF g_row hr (by decide) (Xc (pv 0) (Xc (pv 1) (Xc (Xz BX (pv 3) (Xz Eg (Yq (Xc Xh (Xc Xh (Xc Xh (Xc Xh Xf))))) (Xz YW Xh (pv 2)))) Xf)))))
  (Xa (Xm (i:=5) Yu.nd rfl (Or.inl rfl) (Yq Xf))
  (Xa (Xm (i:=6) Yu.nd rfl (Or.inr rfl) Qx)
  (Xa (Xm (i:=7) Yu.nd rfl (Or.inl rfl) Xh)
  (Xa (Ye PassesOwn.never rfl (Zl rfl Z.b_range (Xc (XJ (XB K rfl) (pv 4) Xh (λ_ _=>rfl)) Xf)) (Xv (i:=8) Yu.nd rfl (Or.inl rfl))
   (Xa (Xm (i:=9) Yu.nd rfl (Or.inl rfl) (Xz YW (XJ (XB K rfl) (pv 4) (Xz Yk (Xz YW Xh (pv 8)) Xh) (λ_ _=>rfl)) (XJ (XB K rfl) (Yq (Xc Xh (Xc Xh (Xc (Xz Vm Xh Xh) Xf)))) (XJ (XB K rfl) (pv 4) Xh (λ_ _=>rfl)) (λ_ _=>rfl))))
   (Xa (Xm (i:=7) Yu.nd rfl (Or.inl rfl) (Xz Yk (Xz Yk (pv 7) Xh) (pv 9)))
   (Xa (X0 (YX PySem.F.plainAttrs_list PySem.F.slot_list_append PySem.F.type_list_append XH (pv 5) (Xc (pv 7) Xf)))
   (Xa (QJ hu1 (pv 6) (pv 7) (Xz Ki (Xz YW Xh (XJ (XB K rfl) (pv 4) (Xz Yk (Xz YW Xh (pv 8)) Xh) (λ_ _=>rfl))) Xh) rfl)
   Xe)))))
  (Xa (Yi (XE KS (XJ (XB K rfl) (pv 4) Xh (λ_ _=>rfl)) Xh (XQ _))
   (Xa (Xm (i:=10) Yu.nd rfl (Or.inl rfl) (YF g_plaited hr (by decide) (Xc (YF g_mixed hr (by decide) (Xc (pv 5) (Xc (pv 4) Xf))) (Xc (pv 6) (Xc (pv 4) (Xc (Xz Yk Xh (XJ (XB K rfl) (pv 4) Xh (λ_ _=>rfl))) Xf))))))
   Xe)
   (Xa (Xm (i:=11) Yu.nd rfl (Or.inl rfl) (XA (DX rfl) rfl Z.b_max PyProof.Rows.boot_max (Xc (XJ (XB K rfl) (pv 4) Xh (λ_ _=>rfl)) (Xc (XA (Fv rfl) rfl Z.b_min PyProof.Rows.boot_min (Xc (XA (Xx K rfl) rfl Z.b_len PySem.boot_len (Xc (pv 5) Xf)) (Xc Xh Xf))) Xf))))
   (Xa (Xm (i:=10) Yu.nd rfl (Or.inl rfl) (YF g_any hr (by decide) (Xc (pv 5) (Xc (pv 4) (Xc (pv 11) Xf)))))
   Xe)))
  (Xa (XD (YZ (Xc (pv 10) (Xc (ZL (sc:=(Xi V1)) (N0:=["_law_script","_law_place","_law_most","_law_sizes","_law_some","_law_names","_law_signs","_law_last","_law_k","_law_step","_law_walks","_law_rings"]) (tns:=["_law_one"]) (caps:=[(6,"_law_signs")]) rfl (XM (K:=K) rfl (pv 5)) (QN (by decide)) (λcl C s H ex E=>⟨Xv (i:=0) (show List.Nodup (["_law_one","_law_signs"]:List Str) by decide+kernel) rfl (Or.inl rfl),Qi,(YZ (Xc (pv 0) (Xc (Ju hu1 (pv 1) (pv 0) (λ_ _=>rfl)) Xf)))⟩)) Xf))))
  Xe)))))))),?_⟩
 refine Y9 (S:=(SC.add (SC.add (SC.add SC.nil K (rL Xb) v_0 a_0) K Xb v_1 a_1) K Xb v_2 a_2)) (σ:=[some v_0,some v_1,some v_2,none,none,none,none,none,none,none,none,none]) 3 ?_ (SC.i (SC.i (SC.i SC.t h_0) h_1) h_2) hm q rfl
 unfold QW
 exact(XI (K:=K) (r:=(rV Xb)) 3 (Ev.sh (Q2 (Xy (EvB.sh (XU (Xd (r:=Xb) 2 rfl (λ_ s=>s.r)) (Xg 1))) (Xy (EvB.sh (Xg 5)) (Xy (EvB.sh (Xg 4)) (Xy (EvB.sh (Xg 3)) (Xy (EvB.sh (Xg 3)) Y4))))))) λa1 v2=>(XI (K:=K) (r:=(rV Xb)) 4 (Ev.sh (Qo (Xd (r:=(rL Xb)) 0 rfl (λ_ s=>s.l.l.l.r)) (Xd (r:=Xb) 1 rfl (λ_ s=>s.l.l.r)) (Ev.toB (BZ (EvS.ls (Xq (r:=(rV Xb)) 3 rfl (λ_ s=>s.r))) (Ev.ls (Ez (Ev.ls (Q2 (Xy (EvB.sh (Xg 80)) (Xy (EvB.sh (Xg 5)) (Xy (EvB.sh (Xg 2)) (Xy (EvB.sh (Xg 3)) Y4)))))) (Yr (Xg 2) (Xd (r:=Xb) 2 rfl (λ_ s=>s.l.r))))))))) λa16 v17=>(XZ (K:=K) (o:=(oL (oF Xb))) 5 2 (Qk (o:=(oF Xb))) (Nat.le_of_ble_eq_true rfl) λa37 v38 C39=>(XZ (K:=K) (o:=(oD Xb)) 6 1 (JX (r:=Xb)) (Nat.le_of_ble_eq_true rfl) λa40 v41 C42=>(XI (K:=K) (r:=Xb) 7 (EvB.sh (Xg 0)) λa43 v44=>(YN (K:=K) (J:=({oo:=λx48=>[[],x48.2.2.2.2.2.1,x48.2.2.2.2.2.2],ss:=λx48=>[some v_0,some v_1,some v_2,some v2,some v17,some x48.2.2.2.2.1,some x48.2.2.2.1,some x48.2.2.1,x48.1,x48.2.1,none,none],sc:=λg49 x48=>(SC.addO (SC.addO (SC.add (SC.add (SC.add (SC.add (SC.add (SC.add SC.nil K (rL Xb) v_0 a_0) K Xb v_1 a_1) K Xb v_2 a_2) K (rV Xb) v2 a1) K (rV Xb) v17 a16) K Xb x48.2.2.1 g49.1) K (oD Xb) x48.2.2.2.1 g49.2.1 x48.2.2.2.2.2.1) K (oL (oF Xb)) x48.2.2.2.2.1 g49.2.2 x48.2.2.2.2.2.2)}:Jn (Int×(List (Int×Int))×(List Int)) (Option V×Option V×V×V×V×List Xn×List Xn))) (λ_=>tg1 8) ((none),(none),v44,v41,v38,C42,C39) (a43,a40,a37) (Yy (Yc (Xd (r:=(rV Xb)) 4 rfl (λ_ s=>s.l.l.l.r)) (Xg 0))) rfl rfl (λ_ s=>(SC.i (SC.i (SC.i (SC.i (SC.i (SC.i (SC.i (SC.i SC.t s.l.l.l.l.l.l.l.r) s.l.l.l.l.l.l.r) s.l.l.l.l.l.r) s.l.l.l.l.r) s.l.l.l.r) s.r) s.l.r) s.l.l.r)) (λg50 x51 a52 v53=>(XI (K:=K) (r:=Xb) 9 (EvB.sh (Yr (Yc (Xd (r:=(rV Xb)) 4 rfl (λ_ s=>s.l.l.l.l.r)) (XU (Yr (Xg 8) (Xd (r:=Xb) 8 rfl (λ_ s=>s.r))) (Xg 8))) (Yc (Ev.toB (Q2 (Xy (EvB.sh (Xg 0)) (Xy (EvB.sh (Xg 1)) (Xy (EvB.sh (QP (Xg 10) (Xg 9))) Y4))))) (Yc (Xd (r:=(rV Xb)) 4 rfl (λ_ s=>s.l.l.l.l.r)) (Xg 3))))) λa54 v55=>(XI (K:=K) (r:=Xb) 7 (EvB.sh (XU (XU (Xd (r:=Xb) 7 rfl (λ_ s=>s.l.l.l.l.r)) (Xg 1)) (Xd (r:=Xb) 9 rfl (λ_ s=>s.r)))) λa77 v78=>(Zh (K:=K) (o:=(oF Xb)) (f:=λa85=>(Rs.bind (Rs.bind (Rs.bind (Rs.ok (2:Int)) λx92=>(Rs.bind (Rs.bind (Rs.ok a16) λx90=>(Rs.bind (Rs.bind (Rs.bind (Rs.ok (8:Int)) λx86=>(Rs.bind (Rs.ok a52) λx87=>(JA x86 x87))) λx88=>(Rs.bind (Rs.ok (7:Int)) λx89=>(Rs.ok (x88+x89)))) λx91=>(atR x90 x91))) λx93=>(JA x92 x93))) λx94=>(Rs.bind (Rs.ok (1:Int)) λx95=>(Rs.ok (x94-x95)))) λx96=>(Rs.bind (Rs.ok a77) λx97=>(chk (g50.2.1.length<sizeLine) ((λa98=>(Rs.ok (a77,a98,a85))) (Zg g50.2.1 x97 x96)))))) 5 2 rfl rfl rfl (λ_ s=>s.l.l.l.r) (EvS.ev (Xq (r:=Xb) 7 rfl (λ_ s=>s.r))) λa83 C84=>(QX (K:=K) (r:=Xb) (f:=λa98=>(Rs.ok (a77,a98,(g50.2.2++[a83])))) 6 1 rfl rfl (λ_ s=>s.l.l.l.l.l.r) (EvB.sh (J1 (Yr (Xg 2) (Yc (Xd (r:=(rV Xb)) 4 rfl (λ_ s=>s.l.l.l.l.l.l.l.r)) (XU (Yr (Xg 8) (Xd (r:=Xb) 8 rfl (λ_ s=>s.l.l.l.r))) (Xg 7)))) (Xg 1))) (Xd (r:=Xb) 7 rfl (λ_ s=>s.l.r)) λa98 C99=>(Xw (J:=_) ((some v53),(some v55),v78,x51.2.2.2.1,x51.2.2.2.2.1,C99,C84) (a77,a98,(g50.2.2++[a83])) rfl rfl (λ_ s=>(SC.i (SC.i (SC.i (SC.i (SC.i (SC.i (SC.i (SC.i SC.t s.l.l.l.l.l.l.l.l.l.l.l.l.r) s.l.l.l.l.l.l.l.l.l.l.l.r) s.l.l.l.l.l.l.l.l.l.l.r) s.l.l.l.l.l.l.l.l.l.r) s.l.l.l.l.l.l.l.l.r) s.l.l.r) s.r) s.l.r)))))))) λg100 x101=>(Yx (J:=({oo:=λx107=>[x107.2.2,x101.2.2.2.2.2.1,x101.2.2.2.2.2.2],ss:=λx107=>[some v_0,some v_1,some v_2,some v2,some v17,some x101.2.2.2.2.1,some x101.2.2.2.1,some x101.2.2.1,x101.1,x101.2.1,some x107.1,x107.2.1],sc:=λg108 x107=>(SC.addO (SC.addO (SC.addO (SC.add (SC.add (SC.add (SC.add (SC.add (SC.add SC.nil K (rL Xb) v_0 a_0) K Xb v_1 a_1) K Xb v_2 a_2) K (rV Xb) v2 a1) K (rV Xb) v17 a16) K Xb x101.2.2.1 g100.1) K (oD Xb) x101.2.2.2.1 g100.2.1 x101.2.2.2.2.2.1) K (oL (oF Xb)) x101.2.2.2.2.1 g100.2.2 x101.2.2.2.2.2.2) K (oL (oL (oF Xb))) x107.1 g108 x107.2.2)}:Jn ((List (List Int))) (V×Option V×List Xn))) (Zk (Fd:=FNd ({oo:=λx107=>[x107.2.2,x101.2.2.2.2.2.1,x101.2.2.2.2.2.2],ss:=λx107=>[some v_0,some v_1,some v_2,some v2,some v17,some x101.2.2.2.2.1,some x101.2.2.2.1,some x101.2.2.1,x101.1,x101.2.1,some x107.1,x107.2.1],sc:=λg108 x107=>(SC.addO (SC.addO (SC.addO (SC.add (SC.add (SC.add (SC.add (SC.add (SC.add SC.nil K (rL Xb) v_0 a_0) K Xb v_1 a_1) K Xb v_2 a_2) K (rV Xb) v2 a1) K (rV Xb) v17 a16) K Xb x101.2.2.1 g100.1) K (oD Xb) x101.2.2.2.1 g100.2.1 x101.2.2.2.2.2.1) K (oL (oF Xb)) x101.2.2.2.2.1 g100.2.2 x101.2.2.2.2.2.2) K (oL (oL (oF Xb))) x107.1 g108 x107.2.2)}:Jn ((List (List Int))) (V×Option V×List Xn))) (Xs (K:=K) (Js (Yc (Xd (r:=(rV Xb)) 4 rfl (λ_ s=>s.l.l.l.r)) (Xg 2)) (Xg 2))) (XZ (K:=K) (o:=(oL (oL (oF Xb)))) 10 0 (BN (Ev.toB (Za (X7 (o:=(oL (oF Xb))) 5 2 rfl rfl (λ_ s=>s.r)) (Xd (r:=(rV Xb)) 4 rfl (λ_ s=>s.l.l.l.r)))) (X7 (o:=(oD Xb)) 6 1 rfl rfl (λ_ s=>s.l.r)) (Xd (r:=(rV Xb)) 4 rfl (λ_ s=>s.l.l.l.r)) (XU (Xg 2) (Yc (Xd (r:=(rV Xb)) 4 rfl (λ_ s=>s.l.l.l.r)) (Xg 4)))) (Nat.le_of_ble_eq_true rfl) λa109 v110 C111=>(Xw (J:=_) (v110,(none),C111) (a109) rfl rfl (λ_ s=>(SC.i (SC.i (SC.i (SC.i (SC.i (SC.i (SC.i (SC.i (SC.i SC.t s.l.l.l.l.l.l.l.l.r) s.l.l.l.l.l.l.l.r) s.l.l.l.l.l.l.r) s.l.l.l.l.l.r) s.l.l.l.l.r) s.l.l.l.r) s.l.l.r) s.l.r) s.r)))) (XI (K:=K) (r:=Xb) 11 (EvB.sh (HP (Yc (Xd (r:=(rV Xb)) 4 rfl (λ_ s=>s.l.l.l.r)) (Xg 1)) (HX (Y3 (X7 (o:=(oL (oF Xb))) 5 2 rfl rfl (λ_ s=>s.r))) (Xg 1)))) λa124 v125=>(XZ (K:=K) (o:=(oL (oL (oF Xb)))) 10 0 (Qo (X7 (o:=(oL (oF Xb))) 5 2 rfl rfl (λ_ s=>s.l.r)) (Xd (r:=(rV Xb)) 4 rfl (λ_ s=>s.l.l.l.l.r)) (Xd (r:=Xb) 11 rfl (λ_ s=>s.r))) (Nat.le_of_ble_eq_true rfl) λa133 v134 C135=>(Xw (J:=_) (v134,(some v125),C135) (a133) rfl rfl (λ_ s=>(SC.i (SC.i (SC.i (SC.i (SC.i (SC.i (SC.i (SC.i (SC.i SC.t s.l.l.l.l.l.l.l.l.l.r) s.l.l.l.l.l.l.l.l.r) s.l.l.l.l.l.l.l.r) s.l.l.l.l.l.l.r) s.l.l.l.l.l.r) s.l.l.l.l.r) s.l.l.l.r) s.l.l.r) s.r)))))) λg141 x140=>(XC (Qw (Y2 (o:=(oL (oL (oF Xb)))) 10 0 rfl rfl (λ_ s=>s.r)) λ_=>(EV (K:=K) (o1:=(oL (oF Xb))) 3 rfl (λ_ s=>s.l.r) (Qj (λ_=>tg1 0) (XF (Xq (r:=(rV Xb)) 5 rfl (λ_ s=>s.r))) (λC142 a143 v144=>(EvS.ev (Zq (Xq (r:=Xb) 0 rfl (λ_ s=>s.r)) (EvB.sh (Qr (X7 (o:=(oD Xb)) 1 3 rfl rfl (λ_ s=>s.l.l.l.l.r)) (Xd (r:=Xb) 0 rfl (λ_ s=>s.r))))))))))))))))))
theorem HJ:FnScope ["_law_drawing"] ["_law_drawing"] (Xi Gf):=⟨rfl,rfl,rfl,by decide+kernel,rfl,by decide+kernel,by decide+kernel⟩
theorem HD (D:Def K mg "_law_copy" Gf ["_law_drawing"])(Y:Ecs XL K mg)(Z:Blt mg):Fn P w K mg base 1 "_law_copy" ["_law_drawing"] (sp1 (rP2 (rV (rV Xb)) (rV (rP2 Xb Xb))) (oT2 (oL (oL (oF Xb))) (oL (oF (rP2 Xb Xb)))) VG K):=by
 refine Zi D HJ (λvs H Q E h=>?_) (λf cdv A outer s H vs Q E hr h=>?_)
 ·obtain⟨v_0,a_0,b,rfl,_⟩:=h;rfl
 obtain⟨v_0,a_0,b,rfl,h_0,hm,q⟩:=h
 have hu:=hu8 hr
 have hu1:=YT hr
 refine⟨_,(Xa (XD (YZ (Xc (ZL (sc:=(Xi Gf)) (N0:=["_law_drawing"]) (tns:=["_law_walk"]) (caps:=[]) rfl (XM (K:=K) rfl (XJ (XG K rfl) (pv 0) Xh (λ_ _=>rfl))) (QN (by decide)) (λcl C s H ex E=>⟨Xv (i:=0) (show List.Nodup (["_law_walk"]:List Str) by decide+kernel) rfl (Or.inl rfl),Qi,(Yp (ZG K rfl) rfl Z.b_list PyProof.Rows.boot_list (Xc (pv 0) Xf))⟩)) (Xc (Yp (ZG K rfl) rfl Z.b_list PyProof.Rows.boot_list (Xc (XJ (XG K rfl) (pv 0) Xh (λ_ _=>rfl)) Xf)) Xf))))
  Xe),?_⟩
 refine Y9 (S:=(SC.add SC.nil K (rP2 (rV (rV Xb)) (rV (rP2 Xb Xb))) v_0 a_0)) (σ:=[some v_0]) 0 ?_ (SC.i SC.t h_0) hm q rfl
 unfold VG
 exact(XC (Qw (Qj (λ_=>tg1 0) (XF (Qg (Xq (r:=(rP2 (rV (rV Xb)) (rV (rP2 Xb Xb)))) 0 rfl (λ_ s=>s.r)))) (λC2 a3 v4=>(KR (EvS.ls (Xq (r:=(rV Xb)) 0 rfl (λ_ s=>s.r)))))) λ_=>(KR (EvB.ls (Z9 (Xd (r:=(rP2 (rV (rV Xb)) (rV (rP2 Xb Xb)))) 0 rfl (λ_ s=>s.r)))))))
theorem KJ:FnScope ["_law_one"] ["_law_one"] (Xi QL):=⟨rfl,rfl,rfl,by decide+kernel,rfl,by decide+kernel,by decide+kernel⟩
theorem Kt (D:Def K mg "_law_is_whole" QL ["_law_one"])(Y:Ecs XL K mg)(Z:Blt mg):Fn P w K mg base 1 "_law_is_whole" ["_law_one"] (sp1 Xb (oF Xl) YO K):=by
 refine Zi D KJ (λvs H Q E h=>?_) (λf cdv A outer s H vs Q E hr h=>?_)
 ·obtain⟨v_0,a_0,b,rfl,_⟩:=h;rfl
 obtain⟨v_0,a_0,b,rfl,h_0,hm,q⟩:=h
 have hu:=hu8 hr
 have hu1:=YT hr
 refine⟨_,(Xa (XD (B7 (XA Yn rfl Z.b_isinstance PyProof.Rows.boot_isinstance (Xc (pv 0) (Xc (ZV (v:=V.ty "int") rfl Z.b_int PyProof.Rows.boot_int rfl) Xf))) (GA (Ea (XA Yn rfl Z.b_isinstance PyProof.Rows.boot_isinstance (Xc (pv 0) (Xc (ZV (v:=V.ty "bool") rfl Z.b_bool PyProof.Rows.boot_bool rfl) Xf)))))))
  Xe),?_⟩
 refine Y9 (S:=(SC.add SC.nil K Xb v_0 a_0)) (σ:=[some v_0]) 0 ?_ (SC.i SC.t h_0) hm q rfl
 unfold YO
 exact(XC (EvS.ev (EvB.sh (Gw (YE "int" true (ZK K "int") (Xd (r:=Xb) 0 rfl (λ_ s=>s.r))) (Gg (YE "bool" false (UF K) (Xd (r:=Xb) 0 rfl (λ_ s=>s.r))))))))
theorem Y8:FnScope ["_law_found","_law_walk","_law_one","_law_entry"] ["_law_found"] (Xi ZR):=⟨rfl,rfl,rfl,by decide+kernel,rfl,by decide+kernel,by decide+kernel⟩
theorem Ub (D:Def K mg "_law_is_drawing" ZR ["_law_found"])(g_is_whole:Fn P w K mg base 1 "_law_is_whole" ["_law_one"] (sp1 Xb (oF Xl) YO K))(Y:Ecs XL K mg)(Z:Blt mg):Fn P w K mg base 2 "_law_is_drawing" ["_law_found"] (sp1 (rP2 (rV (rV Xb)) (rV (rP2 Xb Xb))) (oF Xl) YC K):=by
 refine Zi D Y8 (λvs H Q E h=>?_) (λf cdv A outer s H vs Q E hr h=>?_)
 ·obtain⟨v_0,a_0,b,rfl,_⟩:=h;rfl
 obtain⟨v_0,a_0,b,rfl,h_0,hm,q⟩:=h
 have hu:=hu8 hr
 have hu1:=YT hr
 refine⟨_,(Xa (Yi (PW.pt (Q7 (Zd (YL (XA Yn rfl Z.b_isinstance PyProof.Rows.boot_isinstance (Xc (pv 0) (Xc (ZV (v:=V.ty "tuple") rfl Z.b_tuple PyProof.Rows.boot_tuple rfl) Xf))))) (Z8 (XE GY (XA (Xx K rfl) rfl Z.b_len PySem.boot_len (Xc (pv 0) Xf)) Xh (XQ _)))))
   (Xa (XD ZP)
   Xe)
   Xe)
  (Xa (Yi (PW.pt (Q7 (Zd (YL (XA Yn rfl Z.b_isinstance PyProof.Rows.boot_isinstance (Xc (XJ (XG K rfl) (pv 0) Xh (λ_ _=>rfl)) (Xc (ZV (v:=V.ty "list") rfl Z.b_list PyProof.Rows.boot_list rfl) Xf))))) (Z8 (Zd (YL (XA Yn rfl Z.b_isinstance PyProof.Rows.boot_isinstance (Xc (XJ (XG K rfl) (pv 0) Xh (λ_ _=>rfl)) (Xc (ZV (v:=V.ty "list") rfl Z.b_list PyProof.Rows.boot_list rfl) Xf))))))))
   (Xa (XD ZP)
   Xe)
   Xe)
  (Xa (Ye PassesOwn.never rfl (XM (K:=K) rfl (XJ (XG K rfl) (pv 0) Xh (λ_ _=>rfl))) (Xv (i:=1) Y8.nd rfl (Or.inl rfl))
   (Xa (Yi (Zd (YL (XA Yn rfl Z.b_isinstance PyProof.Rows.boot_isinstance (Xc (pv 1) (Xc (ZV (v:=V.ty "list") rfl Z.b_list PyProof.Rows.boot_list rfl) Xf)))))
    (Xa (XD ZP)
    Xe)
    Xe)
   (Xa (Ye PassesOwn.never rfl (XM (K:=K) rfl (pv 1)) (Xv (i:=2) Y8.nd rfl (Or.inl rfl))
    (Xa (Yi (Zd (YL (YF g_is_whole hr (by decide) (Xc (pv 2) Xf))))
     (Xa (XD ZP)
     Xe)
     Xe)
    Xe))
   Xe)))
  (Xa (Ye PassesOwn.never rfl (XM (K:=K) rfl (XJ (XG K rfl) (pv 0) Xh (λ_ _=>rfl))) (Xv (i:=3) Y8.nd rfl (Or.inl rfl))
   (Xa (Yi (PW.pt (Q7 (Zd (YL (XA Yn rfl Z.b_isinstance PyProof.Rows.boot_isinstance (Xc (pv 3) (Xc (ZV (v:=V.ty "tuple") rfl Z.b_tuple PyProof.Rows.boot_tuple rfl) Xf))))) (Z8 (XE GY (XA (Xx K rfl) rfl Z.b_len PySem.boot_len (Xc (pv 3) Xf)) Xh (XQ _)))))
    (Xa (XD ZP)
    Xe)
    Xe)
   (Xa (Yi (PW.pt (Q7 (Zd (YL (YF g_is_whole hr (by decide) (Xc (XJ (XG K rfl) (pv 3) Xh (λ_ _=>rfl)) Xf)))) (Z8 (Zd (YL (YF g_is_whole hr (by decide) (Xc (XJ (XG K rfl) (pv 3) Xh (λ_ _=>rfl)) Xf)))))))
    (Xa (XD ZP)
    Xe)
    Xe)
   Xe)))
  (Xa (XD ZP)
  Xe))))),?_⟩
 refine Y9 (S:=(SC.add SC.nil K (rP2 (rV (rV Xb)) (rV (rP2 Xb Xb))) v_0 a_0)) (σ:=[some v_0,none,none,none]) 0 ?_ (SC.i SC.t h_0) hm q rfl
 unfold YC
 exact(Y5 (ZM (Yz (Zm (K:=K) (YE "tuple" true (ZK K "tuple") (Xd (r:=(rP2 (rV (rV Xb)) (rV (rP2 Xb Xb)))) 0 rfl (λ_ s=>s.r))))) (Xs (K:=K) (VD (D0 (Xd (r:=(rP2 (rV (rV Xb)) (rV (rP2 Xb Xb)))) 0 rfl (λ_ s=>s.r))) (Xg 2)))) (XC (EvS.ev (EvB.sh (YM false)))) (Y5 (ZM (Yz (Zm (K:=K) (YE "list" true (ZK K "list") (QE (Xd (r:=(rP2 (rV (rV Xb)) (rV (rP2 Xb Xb)))) 0 rfl (λ_ s=>s.r)))))) (Yz (Zm (K:=K) (YE "list" true (ZK K "list") (Z9 (Xd (r:=(rP2 (rV (rV Xb)) (rV (rP2 Xb Xb)))) 0 rfl (λ_ s=>s.r))))))) (XC (EvS.ev (EvB.sh (YM false)))) (Uh (K:=K) (J:=({oo:=λx15=>[],ss:=λx15=>[some v_0,x15.1,x15.2,none],sc:=λg16 x15=>(SC.add SC.nil K (rP2 (rV (rV Xb)) (rV (rP2 Xb Xb))) v_0 a_0)}:Jn (Unit) (Option V×Option V))) (λ_=>tg1 1) ((none),(none)) () (XF (Qg (Xq (r:=(rP2 (rV (rV Xb)) (rV (rP2 Xb Xb)))) 0 rfl (λ_ s=>s.r)))) rfl rfl (λ_ s=>(SC.i SC.t s.r)) (λg17 x18 a19 v20=>(QH (Yz (Zm (K:=K) (YE "list" true (ZK K "list") (Xd (r:=(rV Xb)) 1 rfl (λ_ s=>s.r))))) (XC (EvS.ev (EvB.sh (YM false)))) (Gn (K:=K) (J:=({oo:=λx24=>[],ss:=λx24=>[some v_0,some v20,x24,none],sc:=λg25 x24=>(SC.add (SC.add SC.nil K (rP2 (rV (rV Xb)) (rV (rP2 Xb Xb))) v_0 a_0) K (rV Xb) v20 a19)}:Jn (Unit) (Option V))) (λ_=>tg1 2) ((x18.2)) () (XF (Xq (r:=(rV Xb)) 1 rfl (λ_ s=>s.r))) rfl rfl (λ_ s=>(SC.i (SC.i SC.t s.l.r) s.r)) (λg26 x27 a28 v29=>(QH (Yz (Zm (K:=K) (Ev.toB (Ya (Xd (r:=Xb) 2 rfl (λ_ s=>s.r)))))) (XC (EvS.ev (EvB.sh (YM false)))) (Vy (Xw (J:=_) ((some v29)) () rfl rfl (λ_ s=>(SC.i (SC.i SC.t s.l.l.r) s.l.r)))))) λg36 x37=>(Vy (Xw (J:=_) ((some v20),(x37)) () rfl rfl (λ_ s=>(SC.i SC.t s.l.r))))))) λg41 x42=>(Uh (K:=K) (J:=({oo:=λx44=>[],ss:=λx44=>[some v_0,x42.1,x42.2,x44],sc:=λg45 x44=>(SC.add SC.nil K (rP2 (rV (rV Xb)) (rV (rP2 Xb Xb))) v_0 a_0)}:Jn (Unit) (Option V))) (λ_=>tg1 3) ((none)) () (XF (QF (Xq (r:=(rP2 (rV (rV Xb)) (rV (rP2 Xb Xb)))) 0 rfl (λ_ s=>s.r)))) rfl rfl (λ_ s=>(SC.i SC.t s.r)) (λg46 x47 a48 v49=>(QH (ZM (Yz (Zm (K:=K) (YE "tuple" true (ZK K "tuple") (Xd (r:=(rP2 Xb Xb)) 3 rfl (λ_ s=>s.r))))) (Xs (K:=K) (VD (Bo (Cm (Xd (r:=(rP2 Xb Xb)) 3 rfl (λ_ s=>s.r)))) (Xg 2)))) (XC (EvS.ev (EvB.sh (YM false)))) (QH (ZM (Yz (Zm (K:=K) (Ev.toB (Ya (QE (Xd (r:=(rP2 Xb Xb)) 3 rfl (λ_ s=>s.r))))))) (Yz (Zm (K:=K) (Ev.toB (Ya (Z9 (Xd (r:=(rP2 Xb Xb)) 3 rfl (λ_ s=>s.r)))))))) (XC (EvS.ev (EvB.sh (YM false)))) (Vy (Xw (J:=_) ((some v49)) () rfl rfl (λ_ s=>(SC.i SC.t s.l.r))))))) λg69 x70=>(XC (EvS.ev (EvB.sh (YM true))))))))
theorem Qe:FnScope ["_law_drawing","_law_signs","_law_crossing","_law_sign","_law_words","_law_walk","_law_one"] ["_law_drawing"] (Xi Dv):=⟨rfl,rfl,rfl,by decide+kernel,rfl,by decide+kernel,by decide+kernel⟩
theorem Hu (D:Def K mg "_law_line" Dv ["_law_drawing"])(Y:Ecs XL K mg)(Z:Blt mg):Fn P w K mg base 1 "_law_line" ["_law_drawing"] (sp1 (rP2 (rV (rV Xb)) (rV (rP2 Xb Xb))) (oF Xt) Vx K):=by
 refine Zi D Qe (λvs H Q E h=>?_) (λf cdv A outer s H vs Q E hr h=>?_)
 ·obtain⟨v_0,a_0,b,rfl,_⟩:=h;rfl
 obtain⟨v_0,a_0,b,rfl,h_0,hm,q⟩:=h
 have hu:=hu8 hr
 have hu1:=YT hr
 refine⟨_,(Xa (Xm (i:=1) Qe.nd rfl (Or.inl rfl) Qx)
  (Xa (Ye PassesOwn.never rfl (XM (K:=K) rfl (XJ (XG K rfl) (pv 0) Xh (λ_ _=>rfl))) (Vj rfl (Yj (Xv (i:=2) Qe.nd rfl (Or.inl rfl)) (Yj (Xv (i:=3) Qe.nd rfl (Or.inl rfl)) Qa)))
   (Xa (QJ hu1 (pv 1) (pv 2) XO rfl)
   (Xa (Yi (XE KS (pv 3) Xh (XQ _))
    (Xa (QJ hu1 (pv 1) (pv 2) XO rfl)
    Xe)
    Xe)
   Xe)))
  (Xa (Xm (i:=4) Qe.nd rfl (Or.inl rfl) (Yq Xf))
  (Xa (Ye PassesOwn.never rfl (XM (K:=K) rfl (XJ (XG K rfl) (pv 0) Xh (λ_ _=>rfl))) (Xv (i:=5) Qe.nd rfl (Or.inl rfl))
   (Xa (X0 (YX PySem.F.plainAttrs_list PySem.F.slot_list_append PySem.F.type_list_append XH (pv 4) (Xc XO Xf)))
   (Xa (Ye PassesOwn.never rfl (XM (K:=K) rfl (pv 5)) (Xv (i:=6) Qe.nd rfl (Or.inl rfl))
    (Xa (Yi (XE KS (pv 6) Xh (XQ _))
     (Xa (X0 (YX PySem.F.plainAttrs_list PySem.F.slot_list_append PySem.F.type_list_append XH (pv 4) (Xc (Xz Zc XO (Yp YY rfl Z.b_str PyProof.Rows.boot_str (Xc (Q6 ZN (pv 6)) Xf))) Xf)))
     Xe)
     (Xa (X0 (YX PySem.F.plainAttrs_list PySem.F.slot_list_append PySem.F.type_list_append XH (pv 4) (Xc (Xz Zc (Xz Zc XO (Yp YY rfl Z.b_str PyProof.Rows.boot_str (Xc (pv 6) Xf))) (Ju hu1 (pv 1) (pv 6) (λ_ _=>rfl))) Xf)))
     Xe))
    Xe))
   Xe)))
  (Xa (XD (VC (K:=K) rfl PySem.F.plainAttrs_str PySem.F.slot_str_join PySem.F.type_str_join (CG K rfl) XO (Xc (pv 4) Xf)))
  Xe))))),?_⟩
 refine Y9 (S:=(SC.add SC.nil K (rP2 (rV (rV Xb)) (rV (rP2 Xb Xb))) v_0 a_0)) (σ:=[some v_0,none,none,none,none,none,none]) 2 ?_ (SC.i SC.t h_0) hm q rfl
 unfold Vx
 exact(XZ (K:=K) (o:=(oD Xt)) 1 0 (JX (r:=Xt)) (Nat.le_of_ble_eq_true rfl) λa1 v2 C3=>(YN (K:=K) (J:=({oo:=λx5=>[x5.2.2.2,[]],ss:=λx5=>[some v_0,some x5.2.2.1,x5.1,x5.2.1,none,none,none],sc:=λg6 x5=>(SC.addO (SC.add SC.nil K (rP2 (rV (rV Xb)) (rV (rP2 Xb Xb))) v_0 a_0) K (oD Xt) x5.2.2.1 g6 x5.2.2.2)}:Jn ((List (Int×Str))) (Option V×Option V×V×List Xn))) (λ_=>tg2 2 3) ((none),(none),v2,C3) (a1) (XF (QF (Xq (r:=(rP2 (rV (rV Xb)) (rV (rP2 Xb Xb)))) 0 rfl (λ_ s=>s.l.r)))) rfl rfl (λ_ s=>(SC.i (SC.i SC.t s.l.r) s.r)) (λg7 x8 a9 v10=>(QX (K:=K) (r:=Xt) (f:=λa13=>(Rs.bind (Rs.bind (Rs.bind (Rs.ok a9.2) λx15=>(Rs.bind (Rs.ok (0:Int)) λx16=>(Rs.ok (decide (x15<x16))))) λx17=>(if x17=true then(Rs.bind (Rs.ok ("-":Str)) λx20=>(Rs.bind (Rs.ok a9.1) λx21=>(chk (a13.length<sizeLine) ((λa22=>(Rs.ok (a22))) (Zg a13 x21 x20))))) else(Rs.ok (a13)))) λg25=>(Rs.ok (g25)))) 1 0 rfl rfl (λ_ s=>s.l.l.r) (EvB.sh (XN _)) (Xd (r:=Xb) 2 rfl (λ_ s=>s.l.r)) λa13 C14=>(Yx (J:=({oo:=λx18=>[x18.2,[]],ss:=λx18=>[some v_0,some x18.1,some v10.1,some v10.2,none,none,none],sc:=λg19 x18=>(SC.addO (SC.add (SC.add (SC.add SC.nil K (rP2 (rV (rV Xb)) (rV (rP2 Xb Xb))) v_0 a_0) K Xb v10.1 a9.1) K Xb v10.2 a9.2) K (oD Xt) x18.1 g19 x18.2)}:Jn ((List (Int×Str))) (V×List Xn))) (Zk (Fd:=FNd ({oo:=λx18=>[x18.2,[]],ss:=λx18=>[some v_0,some x18.1,some v10.1,some v10.2,none,none,none],sc:=λg19 x18=>(SC.addO (SC.add (SC.add (SC.add SC.nil K (rP2 (rV (rV Xb)) (rV (rP2 Xb Xb))) v_0 a_0) K Xb v10.1 a9.1) K Xb v10.2 a9.2) K (oD Xt) x18.1 g19 x18.2)}:Jn ((List (Int×Str))) (V×List Xn))) (Xs (K:=K) (Js (Xd (r:=Xb) 3 rfl (λ_ s=>s.l.r)) (Xg 0))) (QX (K:=K) (r:=Xt) (f:=λa22=>(Rs.ok (a22))) 1 0 rfl rfl (λ_ s=>s.r) (EvB.sh (XN _)) (Xd (r:=Xb) 2 rfl (λ_ s=>s.l.l.r)) λa22 C23=>(Xw (J:=_) (x8.2.2.1,C23) (a22) rfl rfl (λ_ s=>(SC.i (SC.i (SC.i (SC.i SC.t s.l.l.l.l.l.r) s.l.l.l.r) s.l.l.r) s.r)))) (Xw (J:=_) (x8.2.2.1,C14) (a13) rfl rfl (λ_ s=>(SC.i (SC.i (SC.i (SC.i SC.t s.l.l.l.l.r) s.l.l.r) s.l.r) s.r)))) λg25 x24=>(Xw (J:=_) ((some v10.1),(some v10.2),x24.1,x24.2) (g25) rfl rfl (λ_ s=>(SC.i (SC.i SC.t s.l.l.l.r) s.r)))))) λg26 x27=>(XZ (K:=K) (o:=(oL (oF Xt))) 4 1 (Qk (o:=(oF Xt))) (Nat.le_of_ble_eq_true rfl) λa28 v29 C30=>(YN (K:=K) (J:=({oo:=λx32=>[x27.2.2.2,x32.2.2.2],ss:=λx32=>[some v_0,some x27.2.2.1,x27.1,x27.2.1,some x32.2.2.1,x32.1,x32.2.1],sc:=λg33 x32=>(SC.addO (SC.addO (SC.add SC.nil K (rP2 (rV (rV Xb)) (rV (rP2 Xb Xb))) v_0 a_0) K (oD Xt) x27.2.2.1 g26 x27.2.2.2) K (oL (oF Xt)) x32.2.2.1 g33 x32.2.2.2)}:Jn ((List Str)) (Option V×Option V×V×List Xn))) (λ_=>tg1 5) ((none),(none),v29,C30) (a28) (XF (Qg (Xq (r:=(rP2 (rV (rV Xb)) (rV (rP2 Xb Xb)))) 0 rfl (λ_ s=>s.l.l.r)))) rfl rfl (λ_ s=>(SC.i (SC.i (SC.i SC.t s.l.l.r) s.l.r) s.r)) (λg34 x35 a36 v37=>(Zh (K:=K) (o:=(oF Xt)) (f:=λa40=>(Rs.bind (Rs.ok a36) λx73=>(Rs.bind (forN x73 (a40) (λg43 a45=>(Rs.bind (Rs.bind (Rs.bind (Rs.ok a45) λx47=>(Rs.bind (Rs.ok (0:Int)) λx48=>(Rs.ok (decide (x47<x48))))) λx49=>(if x49=true then(Rs.bind (Rs.bind (Rs.ok ("u":Str)) λx54=>(Rs.bind (Rs.bind (Rs.bind (Rs.ok a45) λx52=>(Rs.ok (-x52))) λx53=>(chk (x53.natAbs.log2<1920) (Rs.ok (sI x53)))) λx55=>(chk (x54.length+x55.length<=sizeLine) (Rs.ok (x54++x55))))) λa56=>(chk (g43.length<sizeLine) ((λa58=>(Rs.ok (a58))) (g43++[a56])))) else(Rs.bind (Rs.bind (Rs.bind (Rs.ok ("o":Str)) λx60=>(Rs.bind (Rs.bind (Rs.ok a45) λx59=>(chk (x59.natAbs.log2<1920) (Rs.ok (sI x59)))) λx61=>(chk (x60.length+x61.length<=sizeLine) (Rs.ok (x60++x61))))) λx64=>(Rs.bind (Rs.bind (Rs.ok g26) λx62=>(Rs.bind (Rs.ok a45) λx63=>(ZS x62 x63))) λx65=>(chk (x64.length+x65.length<=sizeLine) (Rs.ok (x64++x65))))) λa66=>(chk (g43.length<sizeLine) ((λa68=>(Rs.ok (a68))) (g43++[a66])))))) λg70=>(Rs.ok (g70))))) λg71=>(Rs.ok (g71))))) 4 1 rfl rfl rfl (λ_ s=>s.l.r) (EvS.ev (EvB.sh (XN _))) λa38 C39=>(YN (K:=K) (J:=({oo:=λx41=>[x27.2.2.2,x41.2.2],ss:=λx41=>[some v_0,some x27.2.2.1,x27.1,x27.2.1,some x41.2.1,some v37,x41.1],sc:=λg42 x41=>(SC.addO (SC.add (SC.addO (SC.add SC.nil K (rP2 (rV (rV Xb)) (rV (rP2 Xb Xb))) v_0 a_0) K (oD Xt) x27.2.2.1 g26 x27.2.2.2) K (rV Xb) v37 a36) K (oL (oF Xt)) x41.2.1 g42 x41.2.2)}:Jn ((List Str)) (Option V×V×List Xn))) (λ_=>tg1 6) ((x35.2.1),x35.2.2.1,C39) ((g34++[a38])) (XF (Xq (r:=(rV Xb)) 5 rfl (λ_ s=>s.l.r))) rfl rfl (λ_ s=>(SC.i (SC.i (SC.i (SC.i SC.t s.l.l.l.l.r) s.l.l.l.r) s.l.r) s.r)) (λg43 x44 a45 v46=>(Yx (J:=({oo:=λx50=>[x27.2.2.2,x50.2],ss:=λx50=>[some v_0,some x27.2.2.1,x27.1,x27.2.1,some x50.1,some v37,some v46],sc:=λg51 x50=>(SC.addO (SC.add (SC.add (SC.addO (SC.add SC.nil K (rP2 (rV (rV Xb)) (rV (rP2 Xb Xb))) v_0 a_0) K (oD Xt) x27.2.2.1 g26 x27.2.2.2) K (rV Xb) v37 a36) K Xb v46 a45) K (oL (oF Xt)) x50.1 g51 x50.2)}:Jn ((List Str)) (V×List Xn))) (Zk (Fd:=FNd ({oo:=λx50=>[x27.2.2.2,x50.2],ss:=λx50=>[some v_0,some x27.2.2.1,x27.1,x27.2.1,some x50.1,some v37,some v46],sc:=λg51 x50=>(SC.addO (SC.add (SC.add (SC.addO (SC.add SC.nil K (rP2 (rV (rV Xb)) (rV (rP2 Xb Xb))) v_0 a_0) K (oD Xt) x27.2.2.1 g26 x27.2.2.2) K (rV Xb) v37 a36) K Xb v46 a45) K (oL (oF Xt)) x50.1 g51 x50.2)}:Jn ((List Str)) (V×List Xn))) (Xs (K:=K) (Js (Xd (r:=Xb) 6 rfl (λ_ s=>s.r)) (Xg 0))) (Zh (K:=K) (o:=(oF Xt)) (f:=λa58=>(Rs.ok (a58))) 4 1 rfl rfl rfl (λ_ s=>s.l.r) (EvS.ev (EvB.sh (ZW (XN _) (QA (Y0 (Xd (r:=Xb) 6 rfl (λ_ s=>s.r))))))) λa56 C57=>(Xw (J:=_) (x44.2.1,C57) ((g43++[a56])) rfl rfl (λ_ s=>(SC.i (SC.i (SC.i (SC.i (SC.i SC.t s.l.l.l.l.l.r) s.l.l.l.l.r) s.l.l.l.r) s.l.r) s.r)))) (Zh (K:=K) (o:=(oF Xt)) (f:=λa68=>(Rs.ok (a68))) 4 1 rfl rfl rfl (λ_ s=>s.l.r) (EvS.ev (EvB.sh (ZW (ZW (XN _) (QA (Xd (r:=Xb) 6 rfl (λ_ s=>s.r)))) (Qr (X7 (o:=(oD Xt)) 1 0 rfl rfl (λ_ s=>s.l.l.l.r)) (Xd (r:=Xb) 6 rfl (λ_ s=>s.r)))))) λa66 C67=>(Xw (J:=_) (x44.2.1,C67) ((g43++[a66])) rfl rfl (λ_ s=>(SC.i (SC.i (SC.i (SC.i (SC.i SC.t s.l.l.l.l.l.r) s.l.l.l.l.r) s.l.l.l.r) s.l.r) s.r))))) λg70 x69=>(Xw (J:=_) ((some v46),x69.1,x69.2) (g70) rfl rfl (λ_ s=>(SC.i (SC.i (SC.i (SC.i SC.t s.l.l.l.l.r) s.l.l.l.r) s.l.l.r) s.r))))) λg71 x72=>(Xw (J:=_) ((some v37),(x72.1),x72.2.1,x72.2.2) (g71) rfl rfl (λ_ s=>(SC.i (SC.i (SC.i SC.t s.l.l.l.r) s.l.l.r) s.r)))))) λg74 x75=>(XC (EvS.ev (EvB.sh (Gv (XN _) (X7 (o:=(oL (oF Xt))) 4 1 rfl rfl (λ_ s=>s.r))))))))))
theorem Zw:FnScope ["_law_drawing","_law_far","_law_walks","_law_walk","_law_some","_law_one"] ["_law_drawing","_law_far"] (Xi Qq):=⟨rfl,rfl,rfl,by decide+kernel,rfl,by decide+kernel,by decide+kernel⟩
theorem G6 (D:Def K mg "_law_farther" Qq ["_law_drawing","_law_far"])(Y:Ecs XL K mg)(Z:Blt mg):Fn P w K mg base 1 "_law_farther" ["_law_drawing","_law_far"] (sp2 (rP2 (rV (rV Xb)) (rV (rP2 Xb Xb))) Xb (oT2 (oL (oL (oF Xb))) (oL (oF (rP2 Xb Xb)))) Zv K):=by
 refine Zi D Zw (λvs H Q E h=>?_) (λf cdv A outer s H vs Q E hr h=>?_)
 ·obtain⟨v_0,v_1,a_0,a_1,b,rfl,_⟩:=h;rfl
 obtain⟨v_0,v_1,a_0,a_1,b,rfl,h_0,h_1,hm,q⟩:=h
 have hu:=hu8 hr
 have hu1:=YT hr
 refine⟨_,(Xa (Xm (i:=2) Zw.nd rfl (Or.inl rfl) (Yq Xf))
  (Xa (Ye PassesOwn.never rfl (XM (K:=K) rfl (XJ (XG K rfl) (pv 0) Xh (λ_ _=>rfl))) (Xv (i:=3) Zw.nd rfl (Or.inl rfl))
   (Xa (Xm (i:=4) Zw.nd rfl (Or.inl rfl) (Yq Xf))
   (Xa (Ye PassesOwn.never rfl (XM (K:=K) rfl (pv 3)) (Xv (i:=5) Zw.nd rfl (Or.inl rfl))
    (Xa (Yi (XE KS (pv 5) Xh (XQ _))
     (Xa (X0 (YX PySem.F.plainAttrs_list PySem.F.slot_list_append PySem.F.type_list_append XH (pv 4) (Xc (Xz Ki (pv 5) (pv 1)) Xf)))
     Xe)
     (Xa (X0 (YX PySem.F.plainAttrs_list PySem.F.slot_list_append PySem.F.type_list_append XH (pv 4) (Xc (Xz Yk (pv 5) (pv 1)) Xf)))
     Xe))
    Xe))
   (Xa (X0 (YX PySem.F.plainAttrs_list PySem.F.slot_list_append PySem.F.type_list_append XH (pv 2) (Xc (pv 4) Xf)))
   Xe))))
  (Xa (XD (YZ (Xc (pv 2) (Xc (ZL (sc:=(Xi Qq)) (N0:=["_law_drawing","_law_far","_law_walks","_law_walk","_law_some","_law_one"]) (tns:=["_law_one","_law_sign"]) (caps:=[(1,"_law_far")]) rfl (XM (K:=K) rfl (XJ (XG K rfl) (pv 0) Xh (λ_ _=>rfl))) (Fs (by decide) (by decide)) (λcl C s H ex E=>⟨Da K rfl rfl (Yj (Xv (i:=0) (show List.Nodup (["_law_one","_law_sign","_law_far"]:List Str) by decide+kernel) rfl (Or.inl rfl)) (Yj (Xv (i:=1) (show List.Nodup (["_law_one","_law_sign","_law_far"]:List Str) by decide+kernel) rfl (Or.inl rfl)) Qa)),Qi,(YZ (Xc (Xz Yk (pv 0) (pv 2)) (Xc (pv 1) Xf)))⟩)) Xf))))
  Xe))),?_⟩
 refine Y9 (S:=(SC.add (SC.add SC.nil K (rP2 (rV (rV Xb)) (rV (rP2 Xb Xb))) v_0 a_0) K Xb v_1 a_1)) (σ:=[some v_0,some v_1,none,none,none,none]) 2 ?_ (SC.i (SC.i SC.t h_0) h_1) hm q rfl
 unfold Zv
 exact(XZ (K:=K) (o:=(oL (oL (oF Xb)))) 2 0 (Qk (o:=(oL (oF Xb)))) (Nat.le_of_ble_eq_true rfl) λa1 v2 C3=>(YN (K:=K) (J:=({oo:=λx5=>[x5.2.2.2.2,[]],ss:=λx5=>[some v_0,some v_1,some x5.2.2.2.1,x5.1,x5.2.1,x5.2.2.1],sc:=λg6 x5=>(SC.addO (SC.add (SC.add SC.nil K (rP2 (rV (rV Xb)) (rV (rP2 Xb Xb))) v_0 a_0) K Xb v_1 a_1) K (oL (oL (oF Xb))) x5.2.2.2.1 g6 x5.2.2.2.2)}:Jn ((List (List Int))) (Option V×Option V×Option V×V×List Xn))) (λ_=>tg1 3) ((none),(none),(none),v2,C3) (a1) (XF (Qg (Xq (r:=(rP2 (rV (rV Xb)) (rV (rP2 Xb Xb)))) 0 rfl (λ_ s=>s.l.l.r)))) rfl rfl (λ_ s=>(SC.i (SC.i (SC.i SC.t s.l.l.r) s.l.r) s.r)) (λg7 x8 a9 v10=>(XZ (K:=K) (o:=(oL (oF Xb))) 4 1 (Qk (o:=(oF Xb))) (Nat.le_of_ble_eq_true rfl) λa11 v12 C13=>(YN (K:=K) (J:=({oo:=λx14=>[x8.2.2.2.2,x14.2.2],ss:=λx14=>[some v_0,some v_1,some x8.2.2.2.1,some v10,some x14.2.1,x14.1],sc:=λg15 x14=>(SC.addO (SC.add (SC.addO (SC.add (SC.add SC.nil K (rP2 (rV (rV Xb)) (rV (rP2 Xb Xb))) v_0 a_0) K Xb v_1 a_1) K (oL (oL (oF Xb))) x8.2.2.2.1 g7 x8.2.2.2.2) K (rV Xb) v10 a9) K (oL (oF Xb)) x14.2.1 g15 x14.2.2)}:Jn ((List Int)) (Option V×V×List Xn))) (λ_=>tg1 5) ((x8.2.2.1),v12,C13) (a11) (XF (Xq (r:=(rV Xb)) 3 rfl (λ_ s=>s.l.r))) rfl rfl (λ_ s=>(SC.i (SC.i (SC.i (SC.i (SC.i SC.t s.l.l.l.l.r) s.l.l.l.r) s.l.l.r) s.l.r) s.r)) (λg16 x17 a18 v19=>(Yx (J:=({oo:=λx23=>[x8.2.2.2.2,x23.2],ss:=λx23=>[some v_0,some v_1,some x8.2.2.2.1,some v10,some x23.1,some v19],sc:=λg24 x23=>(SC.addO (SC.add (SC.add (SC.addO (SC.add (SC.add SC.nil K (rP2 (rV (rV Xb)) (rV (rP2 Xb Xb))) v_0 a_0) K Xb v_1 a_1) K (oL (oL (oF Xb))) x8.2.2.2.1 g7 x8.2.2.2.2) K (rV Xb) v10 a9) K Xb v19 a18) K (oL (oF Xb)) x23.1 g24 x23.2)}:Jn ((List Int)) (V×List Xn))) (Zk (Fd:=FNd ({oo:=λx23=>[x8.2.2.2.2,x23.2],ss:=λx23=>[some v_0,some v_1,some x8.2.2.2.1,some v10,some x23.1,some v19],sc:=λg24 x23=>(SC.addO (SC.add (SC.add (SC.addO (SC.add (SC.add SC.nil K (rP2 (rV (rV Xb)) (rV (rP2 Xb Xb))) v_0 a_0) K Xb v_1 a_1) K (oL (oL (oF Xb))) x8.2.2.2.1 g7 x8.2.2.2.2) K (rV Xb) v10 a9) K Xb v19 a18) K (oL (oF Xb)) x23.1 g24 x23.2)}:Jn ((List Int)) (V×List Xn))) (Xs (K:=K) (Js (Xd (r:=Xb) 5 rfl (λ_ s=>s.r)) (Xg 0))) (Zh (K:=K) (o:=(oF Xb)) (f:=λa29=>(Rs.ok (a29))) 4 1 rfl rfl rfl (λ_ s=>s.l.r) (EvS.ev (EvB.sh (J1 (Xd (r:=Xb) 5 rfl (λ_ s=>s.r)) (Xd (r:=Xb) 1 rfl (λ_ s=>s.l.l.l.l.r))))) λa27 C28=>(Xw (J:=_) (x17.2.1,C28) ((g16++[a27])) rfl rfl (λ_ s=>(SC.i (SC.i (SC.i (SC.i (SC.i (SC.i SC.t s.l.l.l.l.l.l.r) s.l.l.l.l.l.r) s.l.l.l.l.r) s.l.l.l.r) s.l.r) s.r)))) (Zh (K:=K) (o:=(oF Xb)) (f:=λa34=>(Rs.ok (a34))) 4 1 rfl rfl rfl (λ_ s=>s.l.r) (EvS.ev (EvB.sh (XU (Xd (r:=Xb) 5 rfl (λ_ s=>s.r)) (Xd (r:=Xb) 1 rfl (λ_ s=>s.l.l.l.l.r))))) λa32 C33=>(Xw (J:=_) (x17.2.1,C33) ((g16++[a32])) rfl rfl (λ_ s=>(SC.i (SC.i (SC.i (SC.i (SC.i (SC.i SC.t s.l.l.l.l.l.l.r) s.l.l.l.l.l.r) s.l.l.l.l.r) s.l.l.l.r) s.l.r) s.r))))) λg36 x35=>(Xw (J:=_) ((some v19),x35.1,x35.2) (g36) rfl rfl (λ_ s=>(SC.i (SC.i (SC.i (SC.i (SC.i SC.t s.l.l.l.l.l.r) s.l.l.l.l.r) s.l.l.l.r) s.l.l.r) s.r))))) λg37 x38=>(Zh (K:=K) (o:=(oL (oF Xb))) (f:=λa41=>(Rs.ok (a41))) 2 0 rfl rfl rfl (λ_ s=>s.l.l.r) (Y2 (o:=(oL (oF Xb))) 4 1 rfl rfl (λ_ s=>s.r)) λa39 C40=>(Xw (J:=_) ((some v10),(some x38.2.1),(x38.1),x8.2.2.2.1,C40) ((g7++[a39])) rfl rfl (λ_ s=>(SC.i (SC.i (SC.i SC.t s.l.l.l.l.l.r) s.l.l.l.l.r) s.r))))))) λg43 x44=>(XC (Qw (Y2 (o:=(oL (oL (oF Xb)))) 2 0 rfl rfl (λ_ s=>s.r)) λ_=>(Qj (λ_=>tg2 0 1) (XF (QF (Xq (r:=(rP2 (rV (rV Xb)) (rV (rP2 Xb Xb)))) 0 rfl (λ_ s=>s.l.l.r)))) (λC46 a47 v48=>(EvS.ev (Zq (EvB.sh (XU (Xd (r:=Xb) 0 rfl (λ_ s=>s.l.r)) (Xd (r:=Xb) 2 rfl (λ_ s=>s.l.l.l.r)))) (Xq (r:=Xb) 1 rfl (λ_ s=>s.r))))))))))
theorem Uj:FnScope ["_law_line_here","_law_found","e","_law_other"] ["_law_line_here"] (Xi DA):=⟨rfl,rfl,rfl,by decide+kernel,rfl,by decide+kernel,by decide+kernel⟩
theorem Hl (D:Def K mg "_law_read" DA ["_law_line_here"])(g_read_drawing:FnX P w K mg base 3 "read_drawing" ["line"] (EE mg Xt (oT2 (oL (oL (oF Xb))) (oL (oF (rP2 Xb Xb)))) X5 K))(Y:Ecs XL K mg)(Z:Blt mg):Fn P w K mg base 4 "_law_read" ["_law_line_here"] (sp1 Xt (oEi (oF (rP2 Xt Xl)) (oT2 (oF Xt) (oT2 (oL (oL (oF Xb))) (oL (oF (rP2 Xb Xb)))))) VM K):=by
  refine Zi D Uj (λvs H Q E h=>?_) (λf cdv A outer s H vs Q E hr h=>?_)
  . obtain⟨v_0,a_0,b,rfl,_⟩:=h;rfl
  obtain⟨v_0,a_0,b,rfl,h_0,hm,q⟩:=h
  obtain⟨C_PlaitError,h_PlaitError,q_PlaitError⟩:=Y.adr "PlaitError" (.head _)
  obtain⟨C_NotADrawing,h_NotADrawing,q_NotADrawing⟩:=Y.adr "NotADrawing" (.tail _ (.head _))
  obtain⟨C_NoFit,h_NoFit,q_NoFit⟩:=Y.adr "NoFit" (.tail _ (.tail _ (.head _)))
  obtain⟨C_NoLine,h_NoLine,q_NoLine⟩:=Y.adr "NoLine" (.tail _ (.tail _ (.tail _ (.head _))))
  have hu:=hu8 hr
  have hu1:=YT hr
  refine⟨_,(Xa (IE rfl rfl rfl rfl h_PlaitError Uj.nd (i:=2) rfl rfl rfl (λpn xe E hp=>(Xa (Xm (i:=1) Uj.nd rfl (Or.inl rfl) (GQ g_read_drawing hr (by decide) hp (Xc (pv 0) Xf)))
      Xe))
     (λpn a o C hm hc=>(Xa (Xm (i:=3) Uj.nd rfl (Or.inl rfl) (Lz (XA (Uw rfl hm hc rfl) rfl Z.b_isinstance PyProof.Rows.boot_isinstance (Xc (pv 2) (Xc (Ud (v:=V.ref C_NotADrawing) rfl h_NotADrawing rfl) Xf))) (GA (XA (Uw rfl hm hc rfl) rfl Z.b_isinstance PyProof.Rows.boot_isinstance (Xc (pv 2) (Xc (Ud (v:=V.ref C_NoFit) rfl h_NoFit rfl) Xf))))))
      (Xa (XD (YZ (Xc XO (Xc (B7 (XA (Uw rfl hm hc rfl) rfl Z.b_isinstance PyProof.Rows.boot_isinstance (Xc (pv 2) (Xc (Ud (v:=V.ref C_NoLine) rfl h_NoLine rfl) Xf))) (GA (Ea (pv 3)))) Xf))))
      Xe))))
    (Xa (XD (YZ (Xc XO (Xc (pv 1) Xf))))
    Xe)),?_⟩
  refine Y9 (S:=(SC.add SC.nil K Xt v_0 a_0)) (σ:=[some v_0,none,none,none]) 1 ?_ (SC.i SC.t h_0) hm q rfl
  unfold VM
  exact(HZ (o1:=(oT2 (oL (oL (oF Xb))) (oL (oF (rP2 Xb Xb))))) (K:=K) (d:="PlaitError") (N:=4) (i:=2) Y (.head _) h_PlaitError 1 0 (λ_=>(QB (Xd (r:=Xt) 0 rfl (λ_ s=>s.r)))) (Nat.le_of_ble_eq_true rfl) (λa8 v9 C10=>(XC (IL (Qw (EvS.ev (EvB.sh (XN _))) λ_=>(Y2 (o:=(oT2 (oL (oL (oF Xb))) (oL (oF (rP2 Xb Xb))))) 1 1 rfl rfl (λ_ s=>s.r)))))) (λx1 hx C a hC=>(XI (K:=K) (r:=Xl) 3 (EvB.sh (Dx (KH 2 rfl (Y.att _ hx C hC) (Y.kit _ hx "NotADrawing" (.tail _ (.head _)) C C_NotADrawing hC h_NotADrawing)) (KH 2 rfl (Y.att _ hx C hC) (Y.kit _ hx "NoFit" (.tail _ (.tail _ (.head _))) C C_NoFit hC h_NoFit)))) λa2 v3=>(XC (Ls (EvS.ev (Zq (EvB.sh (XN _)) (EvB.sh (Gw (KH 2 rfl (Y.att _ hx C hC) (Y.kit _ hx "NoLine" (.tail _ (.tail _ (.tail _ (.head _)))) C C_NoLine hC h_NoLine)) (Gg (Xd (r:=Xl) 3 rfl (λ_ s=>s.r))))))))))))
theorem Qu:FnScope ["_law_drawing","_law_handed","_law_line_here","_law_found","_law_walk"] ["_law_drawing"] (Xi JD):=⟨rfl,rfl,rfl,by decide+kernel,rfl,by decide+kernel,by decide+kernel⟩
theorem C0 (D:Def K mg "_law_asked" JD ["_law_drawing"])(g_copy:Fn P w K mg base 1 "_law_copy" ["_law_drawing"] (sp1 (rP2 (rV (rV Xb)) (rV (rP2 Xb Xb))) (oT2 (oL (oL (oF Xb))) (oL (oF (rP2 Xb Xb)))) VG K))(g_show_drawing:Fn P w K mg base 3 "show_drawing" ["drawing"] (sp1 (rP2 (rV (rV Xb)) (rV (rP2 Xb Xb))) (oF Xt) Yf K))(g_read:Fn P w K mg base 4 "_law_read" ["_law_line_here"] (sp1 Xt (oEi (oF (rP2 Xt Xl)) (oT2 (oF Xt) (oT2 (oL (oL (oF Xb))) (oL (oF (rP2 Xb Xb)))))) VM K))(g_line:Fn P w K mg base 1 "_law_line" ["_law_drawing"] (sp1 (rP2 (rV (rV Xb)) (rV (rP2 Xb Xb))) (oF Xt) Vx K))(g_is_drawing:Fn P w K mg base 2 "_law_is_drawing" ["_law_found"] (sp1 (rP2 (rV (rV Xb)) (rV (rP2 Xb Xb))) (oF Xl) YC K))(Y:Ecs XL K mg)(Z:Blt mg):Fn P w K mg base 5 "_law_asked" ["_law_drawing"] (sp1 (rP2 (rV (rV Xb)) (rV (rP2 Xb Xb))) (oF Xl) ZT K):=by
 refine Zi D Qu (λvs H Q E h=>?_) (λf cdv A outer s H vs Q E hr h=>?_)
 ·obtain⟨v_0,a_0,b,rfl,_⟩:=h;rfl
 obtain⟨v_0,a_0,b,rfl,h_0,hm,q⟩:=h
 have hu:=hu8 hr
 have hu1:=YT hr
 refine⟨_,(Xa (Xm (i:=1) Qu.nd rfl (Or.inl rfl) (YF g_copy hr (by decide) (Xc (pv 0) Xf)))
  (Xa (Xm (i:=2) Qu.nd rfl (Or.inl rfl) (YF g_show_drawing hr (by decide) (Xc (pv 1) Xf)))
  (Xa (Yi (PW.pt (Q7 (XE (B8 (Up (GT (GT eq_int)) (GT (Up eq_int eq_int))) (Fa (by decide) hu)) (pv 1) (pv 0) (XQ _)) (Z8 (Zd (YL (XA Yn rfl Z.b_isinstance PyProof.Rows.boot_isinstance (Xc (pv 2) (Xc (ZV (v:=V.ty "str") rfl Z.b_str PyProof.Rows.boot_str rfl) Xf))))))))
   (Xa (XD ZP)
   Xe)
   Xe)
  (Xa (Yi (XE GY (pv 2) (YF g_line hr (by decide) (Xc (pv 0) Xf)) (XQ _))
   (Xa (XD ZP)
   Xe)
   Xe)
  (Xa (Xm (i:=3) Qu.nd rfl (Or.inl rfl) (YF g_read hr (by decide) (Xc (pv 2) Xf)))
  (Xa (Yi (XE F5 (XA (Xx K rfl) rfl Z.b_len PySem.boot_len (Xc (ZL (sc:=(Xi JD)) (N0:=["_law_drawing","_law_handed","_law_line_here","_law_found","_law_walk"]) (tns:=["_law_one","_law_sign"]) (caps:=[]) rfl (XM (K:=K) rfl (XJ (XG K rfl) (pv 0) Xh (λ_ _=>rfl))) (Fs (by decide) (by decide)) (λcl C s H ex E=>⟨Da K rfl rfl (Yj (Xv (i:=0) (show List.Nodup (["_law_one","_law_sign"]:List Str) by decide+kernel) rfl (Or.inl rfl)) (Yj (Xv (i:=1) (show List.Nodup (["_law_one","_law_sign"]:List Str) by decide+kernel) rfl (Or.inl rfl)) Qa)),(HL (XE Mg (pv 0) (Xz Vm Xh Xh) (XQ _))),(pv 0)⟩)) Xf)) Xh (XQ _))
   (Xa (XD (FG (Du (Ix ((Up HQ Mn).up (by decide)) (Up (HQ.up (by decide)) (Up (GT (GT eq_int)) (GT (Up eq_int eq_int)))) ((Iq HQ (Lr (r:=Xl) (q:=(rP2 (rV (rV Xb)) (rV (rP2 Xb Xb)))) rfl rfl)).up (by decide))) (Fa (by decide) hu)) (pv 3) (YZ (Xc XO (Xc ZP Xf))) (XQ _)))
   Xe)
   Xe)
  (Xa (Yi (PW.pt (Q7 (XE GY (XJ (XG K rfl) (pv 3) Xh (λ_ _=>rfl)) XO (XQ _)) (Z8 (Zd (YL (YF g_is_drawing hr (by decide) (Xc (XJ (XG K rfl) (pv 3) Xh (λ_ _=>rfl)) Xf)))))))
   (Xa (XD ZP)
   Xe)
   Xe)
  (Xa (Yi (XE (B8 (Up (GT (GT eq_int)) (GT (Up eq_int eq_int))) (Fa (by decide) hu)) (XJ (XG K rfl) (pv 3) Xh (λ_ _=>rfl)) (pv 0) (XQ _))
   (Xa (XD ZP)
   Xe)
   Xe)
  (Xa (Ye PassesOwn.never rfl (XM (K:=K) rfl (XJ (XG K rfl) (XJ (XG K rfl) (pv 3) Xh (λ_ _=>rfl)) Xh (λ_ _=>rfl))) (Xv (i:=4) Qu.nd rfl (Or.inl rfl))
   (Xa (X0 (YX PySem.F.plainAttrs_list PySem.F.slot_list_append PySem.F.type_list_append XH (pv 4) (Xc Xh Xf)))
   Xe))
  (Xa (X0 (YX PySem.F.plainAttrs_list PySem.F.slot_list_append PySem.F.type_list_append XH (XJ (XG K rfl) (XJ (XG K rfl) (pv 3) Xh (λ_ _=>rfl)) Xh (λ_ _=>rfl)) (Xc (YZ (Xc Xh (Xc Xh Xf))) Xf)))
  (Xa (XD (FG (Du (GT (GT eq_int)) (Fa (by decide) hu)) (XJ (XG K rfl) (XJ (XG K rfl) (pv 3) Xh (λ_ _=>rfl)) Xh (λ_ _=>rfl)) (ZL (sc:=(Xi JD)) (N0:=["_law_drawing","_law_handed","_law_line_here","_law_found","_law_walk"]) (tns:=["_law_walk"]) (caps:=[]) rfl (XM (K:=K) rfl (XJ (XG K rfl) (pv 0) Xh (λ_ _=>rfl))) (QN (by decide)) (λcl C s H ex E=>⟨Xv (i:=0) (show List.Nodup (["_law_walk"]:List Str) by decide+kernel) rfl (Or.inl rfl),Qi,(Xz BX (pv 0) (Yq (Xc Xh Xf)))⟩)) (XQ _)))
  Xe))))))))))),?_⟩
 refine Y9 (S:=(SC.add SC.nil K (rP2 (rV (rV Xb)) (rV (rP2 Xb Xb))) v_0 a_0)) (σ:=[some v_0,none,none,none,none]) 4 ?_ (SC.i SC.t h_0) hm q rfl
 unfold ZT
 exact(XI (K:=K) (r:=(rP2 (rV (rV Xb)) (rV (rP2 Xb Xb)))) 1 (Ev.sh (Ya (Xd (r:=(rP2 (rV (rV Xb)) (rV (rP2 Xb Xb)))) 0 rfl (λ_ s=>s.r)))) λa1 v2=>(XI (K:=K) (r:=Xt) 2 (EvB.sh (Ev.toB (Ya (Xd (r:=(rP2 (rV (rV Xb)) (rV (rP2 Xb Xb)))) 1 rfl (λ_ s=>s.r))))) λa5 v6=>(Y5 (ZM (Xs (K:=K) (DI (Xd (r:=(rP2 (rV (rV Xb)) (rV (rP2 Xb Xb)))) 1 rfl (λ_ s=>s.l.r)) (Xd (r:=(rP2 (rV (rV Xb)) (rV (rP2 Xb Xb)))) 0 rfl (λ_ s=>s.l.l.r)))) (Yz (Zm (K:=K) (YE "str" true (ZK K "str") (Xd (r:=Xt) 2 rfl (λ_ s=>s.r)))))) (XC (EvS.ev (EvB.sh (YM false)))) (Y5 (Xs (K:=K) (VD (Xd (r:=Xt) 2 rfl (λ_ s=>s.r)) (Ev.toB (Ya (Xd (r:=(rP2 (rV (rV Xb)) (rV (rP2 Xb Xb)))) 0 rfl (λ_ s=>s.l.l.r)))))) (XC (EvS.ev (EvB.sh (YM false)))) (XZ (K:=K) (o:=(oEi (oF (rP2 Xt Xl)) (oT2 (oF Xt) (oT2 (oL (oL (oF Xb))) (oL (oF (rP2 Xb Xb))))))) 3 0 (Ya (Xd (r:=Xt) 2 rfl (λ_ s=>s.r))) (Nat.le_of_ble_eq_true rfl) λa19 v20 C21=>(Y5 (Xs (K:=K) (U8 (Y3 (Ev.toB (Bx (λ_=>tg2 0 1) (XF (QF (Xq (r:=(rP2 (rV (rV Xb)) (rV (rP2 Xb Xb)))) 0 rfl (λ_ s=>s.l.l.l.r)))) (λC25 a26 v27=>(Xs (K:=K) (Iz (Xd (r:=Xb) 0 rfl (λ_ s=>s.l.r)) (QP (Xg 10) (Xg 18))))) (λC25 a26 v27=>(EvS.ev (Xq (r:=Xb) 0 rfl (λ_ s=>s.l.r))))))) (Xg 0))) (XC (EvS.ev (EvB.sh (KN (X7 (o:=(oEi (oF (rP2 Xt Xl)) (oT2 (oF Xt) (oT2 (oL (oL (oF Xb))) (oL (oF (rP2 Xb Xb))))))) 3 0 rfl rfl (λ_ s=>s.r)) (HK (p:=(rP2 Xt (rP2 (rV (rV Xb)) (rV (rP2 Xb Xb))))) (Ev.toB (EvS.ev (Zq (EvB.sh (XN _)) (EvB.sh (YM true)))))))))) (Y5 (ZM (Xs (K:=K) (VD (EH (X7 (o:=(oEi (oF (rP2 Xt Xl)) (oT2 (oF Xt) (oT2 (oL (oL (oF Xb))) (oL (oF (rP2 Xb Xb))))))) 3 0 rfl rfl (λ_ s=>s.r))) (XN _))) (Yz (Zm (K:=K) (Ev.toB (Ya (Z9 (Gj (X7 (o:=(oEi (oF (rP2 Xt Xl)) (oT2 (oF Xt) (oT2 (oL (oL (oF Xb))) (oL (oF (rP2 Xb Xb))))))) 3 0 rfl rfl (λ_ s=>s.r))))))))) (XC (EvS.ev (EvB.sh (YM false)))) (Y5 (Xs (K:=K) (DI (Z9 (Gj (X7 (o:=(oEi (oF (rP2 Xt Xl)) (oT2 (oF Xt) (oT2 (oL (oL (oF Xb))) (oL (oF (rP2 Xb Xb))))))) 3 0 rfl rfl (λ_ s=>s.r)))) (Xd (r:=(rP2 (rV (rV Xb)) (rV (rP2 Xb Xb)))) 0 rfl (λ_ s=>s.l.l.l.r)))) (XC (EvS.ev (EvB.sh (YM false)))) (Hd (K:=K) (λ_ s=>s.r) λb54=>(Iv (K:=K) (λ_ s=>s.r) λv55=>(CS (K:=K) (o1:=(oL (oL (oF Xb)))) (o2:=(oL (oF (rP2 Xb Xb)))) 0 2 3 rfl (Nat.le_of_ble_eq_true rfl) (Nat.le_of_ble_eq_true rfl) (λ_ s=>s.r) λv56 v57 C58 C59=>(F4 (K:=K) (f:=λa62=>(Rs.bind (Rs.bind (Rs.ok (0:Int)) λx63=>(Rs.bind (Rs.ok (0:Int)) λx64=>(Rs.ok (x63,x64)))) λa65=>(chk (b54.2.2.length<sizeLine) ((λa67=>(Rs.bind (Rs.ok a62) λx78=>(Rs.bind (Rs.bind (Rs.bind (Rs.ok a_0) λx68=>(Rs.ok x68.1)) λx72=>(GL x72 (λa70=>(Rs.bind (Rs.ok a70) λx73=>(Rs.bind (Rs.bind (Rs.bind (Rs.ok (1:Int)) λx76=>(Rs.bind (Rs.ok []) λx77=>(Rs.ok (x76::x77)))) λx75=>(chk (x75.length<=sizeLine) (Rs.ok x75))) λx74=>(Ic x73 x74)))))) λx79=>(Rs.ok (decide (x78=x79)))))) (b54.2.2++[a65]))))) 4 2 1 (F3 (Cd 3 rfl (λ_ s=>s.l.l.l.l.l.r)) (λ_ s=>s.l.l.l.r)) (Nat.le_of_ble_eq_true rfl) rfl (λ_ s=>s.l.r) λC60 w61=>(E8 (K:=K) (o:=(oF (rP2 Xb Xb))) (f:=λa67=>(Rs.bind (Rs.ok (b54.2.1.map (· ++[1]))) λx78=>(Rs.bind (Rs.bind (Rs.bind (Rs.ok a_0) λx68=>(Rs.ok x68.1)) λx72=>(GL x72 (λa70=>(Rs.bind (Rs.ok a70) λx73=>(Rs.bind (Rs.bind (Rs.bind (Rs.ok (1:Int)) λx76=>(Rs.bind (Rs.ok []) λx77=>(Rs.ok (x76::x77)))) λx75=>(chk (x75.length<=sizeLine) (Rs.ok x75))) λx74=>(Ic x73 x74)))))) λx79=>(Rs.ok (decide (x78=x79)))))) 3 (ED (Cd 3 rfl (λ_ s=>s.l.l.l.l.l.l.r)) (λ_ s=>s.l.l.l.r)) rfl rfl (λ_ s=>s.l.r) (EvS.ev (Zq (EvB.sh (Xg 0)) (EvB.sh (Xg 0)))) λa65 C66=>(XC (EvS.ev (EvB.sh (KN (C8 (o:=(oL (oL (oF Xb)))) 2 (F3 (Cd 3 rfl (λ_ s=>s.l.l.l.l.l.l.l.r)) (λ_ s=>s.l.l.l.l.l.r)) rfl (λ_ s=>s.l.r)) (Ev.toB (Qj (λ_=>tg1 0) (XF (Qg (Xq (r:=(rP2 (rV (rV Xb)) (rV (rP2 Xb Xb)))) 0 rfl (λ_ s=>s.l.l.l.l.l.l.l.l.l.l.l.l.r)))) (λC69 a70 v71=>(BZ (EvS.ls (Xq (r:=(rV Xb)) 0 rfl (λ_ s=>s.r))) (Ev.ls (Q2 (Xy (EvB.sh (Xg 1)) Y4))))))))))))))))))))))))
theorem Qz:FnScope ["_law_script","_law_drawing","_law_some","_law_last","_law_one","_law_sign","_law_far","_law_other"] ["_law_script"] (Xi V7):=⟨rfl,rfl,rfl,by decide+kernel,rfl,by decide+kernel,by decide+kernel⟩
theorem ID {f:Addr}{fd:FuncData}(F:Fun K "law" "law" V7 f fd)(g_drawn:Fn P w K mg base 3 "_law_drawn" ["_law_script","_law_place","_law_most"] (sp3 (rL Xb) Xb Xb (oT2 (oL (oL (oF Xb))) (oL (oF (rP2 Xb Xb)))) QW K))(g_row:Fn P w K mg base 2 "_law_row" ["_law_script","_law_place","_law_sizes"] (sp3 (rL Xb) Xb (rV Xb) (oL (oF Xb)) Kh K))(g_farther:Fn P w K mg base 1 "_law_farther" ["_law_drawing","_law_far"] (sp2 (rP2 (rV (rV Xb)) (rV (rP2 Xb Xb))) Xb (oT2 (oL (oL (oF Xb))) (oL (oF (rP2 Xb Xb)))) Zv K))(g_asked:Fn P w K mg base 5 "_law_asked" ["_law_drawing"] (sp1 (rP2 (rV (rV Xb)) (rV (rP2 Xb Xb))) (oF Xl) ZT K))(Y:Ecs XL K mg)(Z:Blt mg):FnOk P w K mg base CX0 6 f fd ["_law_script"] (sp1 (rL Xb) (oF Xl) KY K):=by
 refine F.ok Qz (λvs H Q E h=>?_) (λcdv A outer s H vs Q E hr h=>?_)
 ·obtain⟨v_0,a_0,b,rfl,_⟩:=h;rfl
 obtain⟨v_0,a_0,b,rfl,h_0,hm,q⟩:=h
 have hu:=hu8 hr
 have hu1:=YT hr
 refine⟨_,(Xa (Xm (i:=1) Qz.nd rfl (Or.inl rfl) (YF g_drawn hr (by decide) (Xc (pv 0) (Xc Xh (Xc Xh Xf)))))
  (Xa (Xm (i:=2) Qz.nd rfl (Or.inl rfl) (YF g_row hr (by decide) (Xc (pv 0) (Xc Xh (Xc (Yq (Xc Xh (Xc Xh Xf))) Xf JY)))))
  (Xa (Xm (i:=3) Qz.nd rfl (Or.inl rfl) Xh)
  (Xa (Ye PassesOwn.never rfl (XM (K:=K) rfl (XJ (XG K rfl) (pv 1) Xh (λ_ _=>rfl))) (Vj rfl (Yj (Xv (i:=4) Qz.nd rfl (Or.inl rfl)) (Yj (Xv (i:=5) Qz.nd rfl (Or.inl rfl)) Qa)))
   (Xa (Xm (i:=3) Qz.nd rfl (Or.inl rfl) (pv 4))
   Xe))
  (Xa (Xm (i:=6) Qz.nd rfl (Or.inl rfl) (XJ (XB K rfl) (Yq (Xc Xh (Xc Xh (Xc (Xz Vm Xh Xh) (Xc (Xz Yk (Xz Ki (Xz Ki (Xz Vm Xh Xh) (pv 3)) Xh) (XJ (XB K rfl) (pv 2) Xh (λ_ _=>rfl))) Xf))))) (XJ (XB K rfl) (pv 2) Xh (λ_ _=>rfl)) (λ_ _=>rfl)))
  (Xa (Xm (i:=7) Qz.nd rfl (Or.inl rfl) (YF g_farther hr (by decide) (Xc (pv 1) (Xc (pv 6) Xf))))
  (Xa (Yi (PW.pt (Q7 (Zd (YL (YF g_asked hr (by decide) (Xc (pv 7) Xf)))) (Z8 (Zd (YL (YF g_asked hr (by decide) (Xc (pv 1) Xf)))))))
   (Xa (XD ZP)
   Xe)
   Xe)
  (Xa (XD (YF g_asked hr (by decide) (Xc (pv 7) Xf)))
  Xe)))))))),?_⟩
 refine Y9 (S:=(SC.add SC.nil K (rL Xb) v_0 a_0)) (σ:=[some v_0,none,none,none,none,none,none,none]) 0 ?_ (SC.i SC.t h_0) hm q rfl
 unfold KY
 exact(XI (K:=K) (r:=(rP2 (rV (rV Xb)) (rV (rP2 Xb Xb)))) 1 (Ev.sh (Qo (Xd (r:=(rL Xb)) 0 rfl (λ_ s=>s.r)) (Xg 0) (Xg 20))) λa1 v2=>(XI (K:=K) (r:=(rV Xb)) 2 (Ev.sh (Qo (Xd (r:=(rL Xb)) 0 rfl (λ_ s=>s.l.r)) (Xg 1) (Ev.toB (Q2 (Xy (EvB.sh (Xg 4)) (Xy (EvB.sh (Xg 3)) Y4)))))) λa7 v8=>(XI (K:=K) (r:=Xb) 3 (EvB.sh (Xg 1)) λa18 v19=>(YN (K:=K) (J:=({oo:=λx21=>[],ss:=λx21=>[some v_0,some v2,some v8,some x21.2.2,x21.1,x21.2.1,none,none],sc:=λg22 x21=>(SC.add (SC.add (SC.add (SC.add SC.nil K (rL Xb) v_0 a_0) K (rP2 (rV (rV Xb)) (rV (rP2 Xb Xb))) v2 a1) K (rV Xb) v8 a7) K Xb x21.2.2 g22)}:Jn (Int) (Option V×Option V×V))) (λ_=>tg2 4 5) ((none),(none),v19) (a18) (XF (QF (Xq (r:=(rP2 (rV (rV Xb)) (rV (rP2 Xb Xb)))) 1 rfl (λ_ s=>s.l.l.r)))) rfl rfl (λ_ s=>(SC.i (SC.i (SC.i (SC.i SC.t s.l.l.l.r) s.l.l.r) s.l.r) s.r)) (λg23 x24 a25 v26=>(XI (K:=K) (r:=Xb) 3 (Xq (r:=Xb) 4 rfl (λ_ s=>s.l.r)) λa27 v28=>(Xw (J:=_) ((some v26.1),(some v26.2),v28) (a27) rfl rfl (λ_ s=>(SC.i (SC.i (SC.i (SC.i SC.t s.l.l.l.l.l.l.r) s.l.l.l.l.l.r) s.l.l.l.l.r) s.r))))) λg29 x30=>(XI (K:=K) (r:=Xb) 6 (EvB.sh (Yc (Ev.toB (Q2 (Xy (EvB.sh (Xg 0)) (Xy (EvB.sh (Xg 0)) (Xy (EvB.sh (QP (Xg 10) (Xg 17))) (Xy (EvB.sh (XU (J1 (J1 (QP (Xg 10) (Xg 18)) (Xd (r:=Xb) 3 rfl (λ_ s=>s.r))) (Xg 1)) (Yc (Xd (r:=(rV Xb)) 2 rfl (λ_ s=>s.l.r)) (Xg 1)))) Y4)))))) (Yc (Xd (r:=(rV Xb)) 2 rfl (λ_ s=>s.l.r)) (Xg 0)))) λa31 v32=>(XI (K:=K) (r:=(rP2 (rV (rV Xb)) (rV (rP2 Xb Xb)))) 7 (Ev.sh (Za (Xd (r:=(rP2 (rV (rV Xb)) (rV (rP2 Xb Xb)))) 1 rfl (λ_ s=>s.l.l.l.r)) (Xd (r:=Xb) 6 rfl (λ_ s=>s.r)))) λa58 v59=>(Y5 (ZM (Yz (Zm (K:=K) (Ev.toB (Ya (Xd (r:=(rP2 (rV (rV Xb)) (rV (rP2 Xb Xb)))) 7 rfl (λ_ s=>s.r)))))) (Yz (Zm (K:=K) (Ev.toB (Ya (Xd (r:=(rP2 (rV (rV Xb)) (rV (rP2 Xb Xb)))) 1 rfl (λ_ s=>s.l.l.l.l.r))))))) (XC (EvS.ev (EvB.sh (YM false)))) (XC (Ya (Xd (r:=(rP2 (rV (rV Xb)) (rV (rP2 Xb Xb)))) 7 rfl (λ_ s=>s.r)))))))))))
end
theorem Gu {K:PySem.W.Frag}{mg:Str->Option Value}{h:Heap}(X:K.In h)(G:h.Ns mainGlobals mg){x p0:Str}{st:Stmt}{f:Addr}{oc:Value}{od an:Option Addr}{osl:Array (Option Value)}{kV doc pm cdv ct:Value}(hb:∀(kV doc pm:Value) (an:Option Addr) (cdv ct u0:Value),bindArgs (PySem.W.fnOf x x (YJ st) (Yo st) (Xi st) .none kV doc pm an cdv ct) ⟨[u0],[]⟩=pure ([p0].zip [u0]))(a:PySem.W.nsIn K mainGlobals x=some (some (.ref f)))(l:K.lookup f=some ⟨oc,od, .func (PySem.W.fnOf x x (YJ st) (Yo st) (Xi st) .none kV doc pm an cdv ct),osl⟩)(c:PySem.W.codeIn K cdv x=true)(k:PySem.W.keepIn K (.ref f)=true):Def K mg x st [p0]:=⟨f,_,Qt l c k,(Qt l c k).binds λ_ _ _ _ _ _ us hl=>(by obtain⟨_,rfl⟩:=Lp hl;exact hb ..),PySem.W.mg_of X G a⟩
theorem Hb {K:PySem.W.Frag}{mg:Str->Option Value}{h:Heap}(X:K.In h)(G:h.Ns mainGlobals mg){x p0 p1:Str}{st:Stmt}{f:Addr}{oc:Value}{od an:Option Addr}{osl:Array (Option Value)}{kV doc pm cdv ct:Value}(hb:∀(kV doc pm:Value) (an:Option Addr) (cdv ct u0 u1:Value),bindArgs (PySem.W.fnOf x x (YJ st) (Yo st) (Xi st) .none kV doc pm an cdv ct) ⟨[u0,u1],[]⟩=pure ([p0,p1].zip [u0,u1]))(a:PySem.W.nsIn K mainGlobals x=some (some (.ref f)))(l:K.lookup f=some ⟨oc,od, .func (PySem.W.fnOf x x (YJ st) (Yo st) (Xi st) .none kV doc pm an cdv ct),osl⟩)(c:PySem.W.codeIn K cdv x=true)(k:PySem.W.keepIn K (.ref f)=true):Def K mg x st [p0,p1]:=⟨f,_,Qt l c k,(Qt l c k).binds λ_ _ _ _ _ _ us hl=>(by obtain⟨_,_,rfl⟩:=Lc hl;exact hb ..),PySem.W.mg_of X G a⟩
theorem LL {K:PySem.W.Frag}{mg:Str->Option Value}{h:Heap}(X:K.In h)(G:h.Ns mainGlobals mg){x p0 p1 p2:Str}{st:Stmt}{f:Addr}{oc:Value}{od an:Option Addr}{osl:Array (Option Value)}{kV doc pm cdv ct:Value}(hb:∀(kV doc pm:Value) (an:Option Addr) (cdv ct u0 u1 u2:Value),bindArgs (PySem.W.fnOf x x (YJ st) (Yo st) (Xi st) .none kV doc pm an cdv ct) ⟨[u0,u1,u2],[]⟩=pure ([p0,p1,p2].zip [u0,u1,u2]))(a:PySem.W.nsIn K mainGlobals x=some (some (.ref f)))(l:K.lookup f=some ⟨oc,od, .func (PySem.W.fnOf x x (YJ st) (Yo st) (Xi st) .none kV doc pm an cdv ct),osl⟩)(c:PySem.W.codeIn K cdv x=true)(k:PySem.W.keepIn K (.ref f)=true):Def K mg x st [p0,p1,p2]:=⟨f,_,Qt l c k,(Qt l c k).binds λ_ _ _ _ _ _ us hl=>(by obtain⟨_,_,_,rfl⟩:=Lg hl;exact hb ..),PySem.W.mg_of X G a⟩
theorem MW {K:PySem.W.Frag}{mg:Str->Option Value}{h:Heap}(X:K.In h)(G:h.Ns mainGlobals mg){x p0 p1 p2 p3:Str}{st:Stmt}{f:Addr}{oc:Value}{od an:Option Addr}{osl:Array (Option Value)}{kV doc pm cdv ct:Value}(hb:∀(kV doc pm:Value) (an:Option Addr) (cdv ct u0 u1 u2 u3:Value),bindArgs (PySem.W.fnOf x x (YJ st) (Yo st) (Xi st) .none kV doc pm an cdv ct) ⟨[u0,u1,u2,u3],[]⟩=pure ([p0,p1,p2,p3].zip [u0,u1,u2,u3]))(a:PySem.W.nsIn K mainGlobals x=some (some (.ref f)))(l:K.lookup f=some ⟨oc,od, .func (PySem.W.fnOf x x (YJ st) (Yo st) (Xi st) .none kV doc pm an cdv ct),osl⟩)(c:PySem.W.codeIn K cdv x=true)(k:PySem.W.keepIn K (.ref f)=true):Def K mg x st [p0,p1,p2,p3]:=⟨f,_,Qt l c k,(Qt l c k).binds λ_ _ _ _ _ _ us hl=>(by obtain⟨_,_,_,_,rfl⟩:=L4 hl;exact hb ..),PySem.W.mg_of X G a⟩
theorem Ik {l:PySem.W.OpenLaw}{w:World}{K:PySem.W.Frag}{h:Heap}{mg:Str->Option Value}{fa f E0 E1 E2 E3:Addr}{tk0:Tok}{tk1:Tok}{tk2:Tok}(X:K.In h)(G:h.Ns mainGlobals mg)(hfa:mg "law" =some (.ref fa)){od an:Option Addr}{sl:Array (Option Value)}{oc kV dc pm cd ct:Value}
  (D1:Def K mg "fault" KG ["drawing"])
  (D2:Def K mg "passages_of" ZE ["walks"])
  (D3:Def K mg "walk_fault" Zp ["walks","signs","standing"])
  (D4:Def K mg "sign_fault" ZU ["signs","standing"])
  (D5:Def K mg "many_fault" ZQ ["walks","signs"])
  (D6:Def K mg "show_drawing" YU ["drawing"])
  (D7:Def K mg "passage_word" Zu ["passage","signs"])
  (D8:Def K mg "sign_word" Qd ["sign"])
  (D9:Def K mg "words_of" QQ ["line"])
  (D10:Def K mg "read_number" ZH ["word"])
  (D11:Def K mg "read_drawing" Zt ["line"])
  (D12:Def K mg "read_sign" Qb ["word"])
  (D13:Def K mg "_law_cell" CD ["_law_script","_law_place"])
  (D14:Def K mg "_law_mix" HH ["_law_cell_here","_law_k"])
  (D15:Def K mg "_law_row" Ia ["_law_script","_law_place","_law_sizes"])
  (D16:Def K mg "_law_mixed" KM ["_law_names","_law_some"])
  (D17:Def K mg "_law_any" BK ["_law_names","_law_some","_law_rings"])
  (D18:Def K mg "_law_plaited" JQ ["_law_names","_law_signs","_law_some","_law_strands"])
  (D19:Def K mg "_law_drawn" V1 ["_law_script","_law_place","_law_most"])
  (D20:Def K mg "_law_copy" Gf ["_law_drawing"])
  (D21:Def K mg "_law_is_whole" QL ["_law_one"])
  (D22:Def K mg "_law_is_drawing" ZR ["_law_found"])
  (D23:Def K mg "_law_line" Dv ["_law_drawing"])
  (D24:Def K mg "_law_farther" Qq ["_law_drawing","_law_far"])
  (D25:Def K mg "_law_read" DA ["_law_line_here"])
  (D26:Def K mg "_law_asked" JD ["_law_drawing"])
  (a:PySem.W.nsIn K mainGlobals "law" =some (some (.ref f)))(l0:K.lookup f=some ⟨oc,od, .func (PySem.W.fnOf "law" "law" (YJ V7) (Yo V7) (Xi V7) .none kV dc pm an cd ct),sl⟩)(c:PySem.W.codeIn K cd "law" =true)(k:PySem.W.keepIn K (.ref f)=true)
  (z1:PySem.W.nsIn K mainGlobals "abs" =some none)
  (z2:PySem.W.nsIn K mainGlobals "bool" =some none)
  (z3:PySem.W.nsIn K mainGlobals "dict" =some none)
  (z4:PySem.W.nsIn K mainGlobals "enumerate" =some none)
  (z5:PySem.W.nsIn K mainGlobals "int" =some none)
  (z6:PySem.W.nsIn K mainGlobals "isinstance" =some none)
  (z7:PySem.W.nsIn K mainGlobals "len" =some none)
  (z8:PySem.W.nsIn K mainGlobals "list" =some none)
  (z9:PySem.W.nsIn K mainGlobals "max" =some none)
  (z10:PySem.W.nsIn K mainGlobals "min" =some none)
  (z11:PySem.W.nsIn K mainGlobals "range" =some none)
  (z12:PySem.W.nsIn K mainGlobals "sorted" =some none)
  (z13:PySem.W.nsIn K mainGlobals "str" =some none)
  (z14:PySem.W.nsIn K mainGlobals "tuple" =some none)
  (w0:PySem.W.nsIn K mainGlobals "MOST_CROSSINGS" =some (some (.int 40 tk0)))
  (w1:PySem.W.nsIn K mainGlobals "MOST_FIGURES" =some (some (.int 18 tk1)))
  (w2:PySem.W.nsIn K mainGlobals "MOST_WALKS" =some (some (.int 12 tk2)))
  (x0:PySem.W.nsIn K mainGlobals "PlaitError" =some (some (.ref E0)))
  (x1:PySem.W.nsIn K mainGlobals "NotADrawing" =some (some (.ref E1)))
  (x2:PySem.W.nsIn K mainGlobals "NoFit" =some (some (.ref E2)))
  (x3:PySem.W.nsIn K mainGlobals "NoLine" =some (some (.ref E3)))
  (yg:PySem.W.specialIn K (.builtin "object.__class__") "__get__" =some (some (.builtin "getset_descriptor.__get__")))
  (yt:PySem.W.takesIn K (.builtin "object.__class__")=some true)
  (ya0:PySem.W.excIn K E0 vEr "ValueError.__new__" =true)
  (yb0:PySem.W.findIn K (.ref E0) "__getattribute__" =some (some (.builtin "BaseException.__getattribute__")))
  (yc0:PySem.W.findIn K (.ref E0) "__getattr__" =some none)
  (yd0:PySem.W.findIn K (.ref E0) "__class__" =some (some (.builtin "object.__class__")))
  (ye0:PySem.W.mroIn K E0 (.type "object")=some true)
  (yf0:PySem.W.isClsIn K E0=true)
  (yh0:PySem.W.mroIn K E0 (.type "BaseException")=some true)
  (yi0:PySem.W.subIn K (.ref E0) (.type "ValueError")=some true)
  (yj0:PySem.W.typeIn K (.ref E0)=some (.type "type"))
  (yk0:PySem.W.subIn K (.ref E0) (.type "BaseException")=some true)
  (yb1:PySem.W.findIn K (.ref E1) "__getattribute__" =some (some (.builtin "BaseException.__getattribute__")))
  (yc1:PySem.W.findIn K (.ref E1) "__getattr__" =some none)
  (yd1:PySem.W.findIn K (.ref E1) "__class__" =some (some (.builtin "object.__class__")))
  (ye1:PySem.W.mroIn K E1 (.type "object")=some true)
  (yf1:PySem.W.isClsIn K E1=true)
  (yh1:PySem.W.mroIn K E1 (.type "BaseException")=some true)
  (yi1:PySem.W.subIn K (.ref E1) (.type "ValueError")=some true)
  (yj1:PySem.W.typeIn K (.ref E1)=some (.type "type"))
  (yk1:PySem.W.subIn K (.ref E1) (.type "BaseException")=some true)
  (ya2:PySem.W.excIn K E2 vEr "ValueError.__new__" =true)
  (yb2:PySem.W.findIn K (.ref E2) "__getattribute__" =some (some (.builtin "BaseException.__getattribute__")))
  (yc2:PySem.W.findIn K (.ref E2) "__getattr__" =some none)
  (yd2:PySem.W.findIn K (.ref E2) "__class__" =some (some (.builtin "object.__class__")))
  (ye2:PySem.W.mroIn K E2 (.type "object")=some true)
  (yf2:PySem.W.isClsIn K E2=true)
  (yh2:PySem.W.mroIn K E2 (.type "BaseException")=some true)
  (yi2:PySem.W.subIn K (.ref E2) (.type "ValueError")=some true)
  (yj2:PySem.W.typeIn K (.ref E2)=some (.type "type"))
  (yk2:PySem.W.subIn K (.ref E2) (.type "BaseException")=some true)
  (ya3:PySem.W.excIn K E3 vEr "ValueError.__new__" =true)
  (yb3:PySem.W.findIn K (.ref E3) "__getattribute__" =some (some (.builtin "BaseException.__getattribute__")))
  (yc3:PySem.W.findIn K (.ref E3) "__getattr__" =some none)
  (yd3:PySem.W.findIn K (.ref E3) "__class__" =some (some (.builtin "object.__class__")))
  (ye3:PySem.W.mroIn K E3 (.type "object")=some true)
  (yf3:PySem.W.isClsIn K E3=true)
  (yh3:PySem.W.mroIn K E3 (.type "BaseException")=some true)
  (yi3:PySem.W.subIn K (.ref E3) (.type "ValueError")=some true)
  (yj3:PySem.W.typeIn K (.ref E3)=some (.type "type"))
  (yk3:PySem.W.subIn K (.ref E3) (.type "BaseException")=some true)
  (yl0_0:PySem.W.subIn K (.ref E0) (.ref E0)=some true)
  (yl0_1:PySem.W.subIn K (.ref E0) (.ref E1)=some false)
  (yl0_2:PySem.W.subIn K (.ref E0) (.ref E2)=some false)
  (yl0_3:PySem.W.subIn K (.ref E0) (.ref E3)=some false)
  (yl1_0:PySem.W.subIn K (.ref E1) (.ref E0)=some true)
  (yl1_1:PySem.W.subIn K (.ref E1) (.ref E1)=some true)
  (yl1_2:PySem.W.subIn K (.ref E1) (.ref E2)=some false)
  (yl1_3:PySem.W.subIn K (.ref E1) (.ref E3)=some false)
  (yl2_0:PySem.W.subIn K (.ref E2) (.ref E0)=some true)
  (yl2_1:PySem.W.subIn K (.ref E2) (.ref E1)=some false)
  (yl2_2:PySem.W.subIn K (.ref E2) (.ref E2)=some true)
  (yl2_3:PySem.W.subIn K (.ref E2) (.ref E3)=some false)
  (yl3_0:PySem.W.subIn K (.ref E3) (.ref E0)=some true)
  (yl3_1:PySem.W.subIn K (.ref E3) (.ref E1)=some false)
  (yl3_2:PySem.W.subIn K (.ref E3) (.ref E2)=some false)
  (yl3_3:PySem.W.subIn K (.ref E3) (.ref E3)=some true)
  :∃fd:FuncData,(∀(s:Shared) (v:Value),BindsTo s fd ⟨[v],[]⟩ [("_law_script",v)])/\∀base:Heap,K.In base->base.Ns mainGlobals mg->FnOk l.prog w K mg base CX0 6 fa fd ["_law_script"] (sp1 (rL Xb) (oF Xl) KY K):=by
 have e:=hfa.symm.trans (PySem.W.mg_of X G a)
 cases e
 have N:∀{x:Str},PySem.W.nsIn K mainGlobals x=some none->mg x=none:=λz=>PySem.W.mg_none_of X G z
 have pz0:QS "PlaitError" =true:=by decide
 have er0:=K6 yb0 yc0 yd0 ye0 yf0 yh0 yg yt
 have iz0_0:Zb "PlaitError" "PlaitError" =true:=by decide
 have kx0_0:=Z5 yl0_0 yl0_0 yf0 yj0 yk0
 have iz0_1:Zb "PlaitError" "NotADrawing" =false:=by decide
 have kx0_1:=Z5 yl0_0 yl0_1 yf1 yj1 yk1
 have iz0_2:Zb "PlaitError" "NoFit" =false:=by decide
 have kx0_2:=Z5 yl0_0 yl0_2 yf2 yj2 yk2
 have iz0_3:Zb "PlaitError" "NoLine" =false:=by decide
 have kx0_3:=Z5 yl0_0 yl0_3 yf3 yj3 yk3
 have pz1:QS "NotADrawing" =false:=by decide
 have er1:=K6 yb1 yc1 yd1 ye1 yf1 yh1 yg yt
 have iz1_0:Zb "NotADrawing" "PlaitError" =true:=by decide
 have kx1_0:=Z5 yl1_1 yl1_0 yf0 yj0 yk0
 have iz1_1:Zb "NotADrawing" "NotADrawing" =true:=by decide
 have kx1_1:=Z5 yl1_1 yl1_1 yf1 yj1 yk1
 have iz1_2:Zb "NotADrawing" "NoFit" =false:=by decide
 have kx1_2:=Z5 yl1_1 yl1_2 yf2 yj2 yk2
 have iz1_3:Zb "NotADrawing" "NoLine" =false:=by decide
 have kx1_3:=Z5 yl1_1 yl1_3 yf3 yj3 yk3
 have pz2:QS "NoFit" =true:=by decide
 have er2:=K6 yb2 yc2 yd2 ye2 yf2 yh2 yg yt
 have iz2_0:Zb "NoFit" "PlaitError" =true:=by decide
 have kx2_0:=Z5 yl2_2 yl2_0 yf0 yj0 yk0
 have iz2_1:Zb "NoFit" "NotADrawing" =false:=by decide
 have kx2_1:=Z5 yl2_2 yl2_1 yf1 yj1 yk1
 have iz2_2:Zb "NoFit" "NoFit" =true:=by decide
 have kx2_2:=Z5 yl2_2 yl2_2 yf2 yj2 yk2
 have iz2_3:Zb "NoFit" "NoLine" =false:=by decide
 have kx2_3:=Z5 yl2_2 yl2_3 yf3 yj3 yk3
 have pz3:QS "NoLine" =true:=by decide
 have er3:=K6 yb3 yc3 yd3 ye3 yf3 yh3 yg yt
 have iz3_0:Zb "NoLine" "PlaitError" =true:=by decide
 have kx3_0:=Z5 yl3_3 yl3_0 yf0 yj0 yk0
 have iz3_1:Zb "NoLine" "NotADrawing" =false:=by decide
 have kx3_1:=Z5 yl3_3 yl3_1 yf1 yj1 yk1
 have iz3_2:Zb "NoLine" "NoFit" =false:=by decide
 have kx3_2:=Z5 yl3_3 yl3_2 yf2 yj2 yk2
 have iz3_3:Zb "NoLine" "NoLine" =true:=by decide
 have kx3_3:=Z5 yl3_3 yl3_3 yf3 yj3 yk3
 have y0:HC K [("PlaitError",E0),("NotADrawing",E1),("NoFit",E2),("NoLine",E3)]=true:=by
  unfold HC
  simp only[List.all_cons,List.all_nil,Bool.and_true,Bool.and_self,beq_self_eq_true,Bool.not_true,Bool.not_false,Bool.false_or,Bool.true_or,pz0,ya0,er0,Uu yi0,pz1,er1,Uu yi1,pz2,ya2,er2,Uu yi2,pz3,ya3,er3,Uu yi3,iz0_0,kx0_0.1,kx0_0.2,iz0_1,kx0_1.1,kx0_1.2,iz0_2,kx0_2.1,kx0_2.2,iz0_3,kx0_3.1,kx0_3.2,iz1_0,kx1_0.1,kx1_0.2,iz1_1,kx1_1.1,kx1_1.2,iz1_2,kx1_2.1,kx1_2.2,iz1_3,kx1_3.1,kx1_3.2,iz2_0,kx2_0.1,kx2_0.2,iz2_1,kx2_1.1,kx2_1.2,iz2_2,kx2_2.1,kx2_2.2,iz2_3,kx2_3.1,kx2_3.2,iz3_0,kx3_0.1,kx3_0.2,iz3_1,kx3_1.1,kx3_1.2,iz3_2,kx3_2.1,kx3_2.2,iz3_3,kx3_3.1,kx3_3.2]
 have Y:Ecs XL K mg:=LG (cs:=[("PlaitError",E0),("NotADrawing",E1),("NoFit",E2),("NoLine",E3)]) y0 (λp hp=>by
  simp only[List.mem_cons,List.not_mem_nil,or_false] at hp
  rcases hp with rfl |rfl |rfl |rfl
  ·exact PySem.W.mg_of X G x0
  ·exact PySem.W.mg_of X G x1
  ·exact PySem.W.mg_of X G x2
  ·exact PySem.W.mg_of X G x3)
 have Z:Blt mg:=⟨N z1,N z2,N z3,N z4,N z5,N z6,N z7,N z8,N z9,N z10,N z11,N z12,N z13,N z14,⟨_,PySem.W.mg_of X G w0,_,rfl⟩,⟨_,PySem.W.mg_of X G w1,_,rfl⟩,⟨_,PySem.W.mg_of X G w2,_,rfl⟩⟩
 refine⟨PySem.W.fnOf "law" "law" (YJ V7) (Yo V7) (Xi V7) .none kV dc pm an cd ct,λs v=>.of_eq rfl,λbase _ _=>?_⟩
 have g_cell:=Hv (P:=l.prog) (w:=w) (base:=base) D13 Y Z
 have g_mix:=Le (P:=l.prog) (w:=w) (base:=base) D14 Y Z
 have g_row:=LD (P:=l.prog) (w:=w) (base:=base) D15 g_cell g_mix Y Z
 have g_plaited:=GX (P:=l.prog) (w:=w) (base:=base) D18 Y Z
 have g_any:=Lj (P:=l.prog) (w:=w) (base:=base) D17 Y Z
 have g_mixed:=Be (P:=l.prog) (w:=w) (base:=base) D16 Y Z
 have g_drawn:=Bm (P:=l.prog) (w:=w) (base:=base) D19 g_row g_plaited g_any g_mixed Y Z
 have g_farther:=G6 (P:=l.prog) (w:=w) (base:=base) D24 Y Z
 have g_copy:=HD (P:=l.prog) (w:=w) (base:=base) D20 Y Z
 have g_sign_word:=Uz (P:=l.prog) (w:=w) (base:=base) D8 Y Z
 have g_passage_word:=JK (P:=l.prog) (w:=w) (base:=base) D7 g_sign_word Y Z
 have g_show_drawing:=Jw (P:=l.prog) (w:=w) (base:=base) D6 g_passage_word Y Z
 have g_words_of:=Kx (P:=l.prog) (w:=w) (base:=base) D9 Y Z
 have g_passages_of:=Va (P:=l.prog) (w:=w) (base:=base) D2 Y Z
 have g_walk_fault:=VP (P:=l.prog) (w:=w) (base:=base) D3 Y Z
 have g_sign_fault:=VO (P:=l.prog) (w:=w) (base:=base) D4 Y Z
 have g_many_fault:=Us (P:=l.prog) (w:=w) (base:=base) D5 Y Z
 have g_fault:=BV (P:=l.prog) (w:=w) (base:=base) D1 g_passages_of g_walk_fault g_sign_fault g_many_fault Y Z
 have g_read_number:=Ve (P:=l.prog) (w:=w) (base:=base) D10 Y Z
 have g_read_sign:=U6 (P:=l.prog) (w:=w) (base:=base) D12 Y Z
 have g_read_drawing:=J0 (P:=l.prog) (w:=w) (base:=base) D11 g_words_of g_fault g_read_number g_read_sign Y Z
 have g_read:=Hl (P:=l.prog) (w:=w) (base:=base) D25 g_read_drawing Y Z
 have g_line:=Hu (P:=l.prog) (w:=w) (base:=base) D23 Y Z
 have g_is_whole:=Kt (P:=l.prog) (w:=w) (base:=base) D21 Y Z
 have g_is_drawing:=Ub (P:=l.prog) (w:=w) (base:=base) D22 g_is_whole Y Z
 have g_asked:=C0 (P:=l.prog) (w:=w) (base:=base) D26 g_copy g_show_drawing g_read g_line g_is_drawing Y Z
 exact ID (P:=l.prog) (w:=w) (base:=base) (Qt (st:=V7) l0 c k) g_drawn g_row g_farther g_asked Y Z
theorem M1 {l:PySem.W.OpenLaw}{q:Program}{loose:List Str}{XP:(Str->Option Value)->Heap->Prop}{YP:World->Heap->Prop}{d:DefRec}{K:Params->PySem.W.Frag}(hn:l.most=some 63)(hdf:d.params.defaults=[])
  (hY:∀(w:World) (h:Heap),YP w h->(K w.params).In h)
  (F:∀(w:World) (mg:Str->Option Value) (fa:Addr) (h:Heap),(K w.params).In h->h.Ns mainGlobals mg->mg d.name=some (.ref fa)->
   ∃fd:FuncData,(∀(s:Shared) (u:Value),BindsTo s fd ⟨[u],[]⟩ [("_law_script",u)])/\∀base:Heap,(K w.params).In base->base.Ns mainGlobals mg->FnOk l.prog w (K w.params) mg base CX0 6 fa fd ["_law_script"] (sp1 (rL Xb) (oF Xl) KY (K w.params))):
  PySem.W.WalkO q loose XP YP l.row.toRowW d [] (λf vs=>PySem.call f vs):=
 L2.EG (n:=63) (k:=6) (x:="_law_script") (CX:=λ_=>CX0) (sp:=λw=>sp1 (rL Xb) (oF Xl) KY (K w.params)) hn (by decide) hdf ⟨rfl,by decide,by decide⟩ hY F (λ_ _ a ns hl _ hS=>⟨.ref a,ns,true,rfl,⟨a,_,rfl,hS,K0 ns⟩,BB ns hl,λv C H' w m ho=>ho.2⟩) λ_ _ _ _ _ z=>z
end My
open PySem PySem.W PyProof.Rows
set_option maxRecDepth 100000 in
set_option maxHeartbeats 0 in
theorem PySem.Challenge.cw_plait_k91_drawings_as_lines_holds : PySem.Challenge.rw_plait_k91_drawings_as_lines.Holds := by
  w_on; o_law; k_head; (case hw => w_witness2)
  k_fill
  refine My.M1 (l := PySem.Challenge.rw_plait_k91_drawings_as_lines) rfl rfl (fun w h Y => PySem.W.kIn_of Y) ?F
  case F =>
    intro w mg fa h KX G hmg
    refine' My.Ik KX G hmg (My.Gu KX G (by intros; rfl) ?a1 ?l1 ?c1 ?k1) (My.Gu KX G (by intros; rfl) ?a2 ?l2 ?c2 ?k2) (My.LL KX G (by intros; rfl) ?a3 ?l3 ?c3 ?k3) (My.Hb KX G (by intros; rfl) ?a4 ?l4 ?c4 ?k4) (My.Hb KX G (by intros; rfl) ?a5 ?l5 ?c5 ?k5) (My.Gu KX G (by intros; rfl) ?a6 ?l6 ?c6 ?k6) (My.Hb KX G (by intros; rfl) ?a7 ?l7 ?c7 ?k7) (My.Gu KX G (by intros; rfl) ?a8 ?l8 ?c8 ?k8) (My.Gu KX G (by intros; rfl) ?a9 ?l9 ?c9 ?k9) (My.Gu KX G (by intros; rfl) ?a10 ?l10 ?c10 ?k10) (My.Gu KX G (by intros; rfl) ?a11 ?l11 ?c11 ?k11) (My.Gu KX G (by intros; rfl) ?a12 ?l12 ?c12 ?k12) (My.Hb KX G (by intros; rfl) ?a13 ?l13 ?c13 ?k13) (My.Hb KX G (by intros; rfl) ?a14 ?l14 ?c14 ?k14) (My.LL KX G (by intros; rfl) ?a15 ?l15 ?c15 ?k15) (My.Hb KX G (by intros; rfl) ?a16 ?l16 ?c16 ?k16) (My.LL KX G (by intros; rfl) ?a17 ?l17 ?c17 ?k17) (My.MW KX G (by intros; rfl) ?a18 ?l18 ?c18 ?k18) (My.LL KX G (by intros; rfl) ?a19 ?l19 ?c19 ?k19) (My.Gu KX G (by intros; rfl) ?a20 ?l20 ?c20 ?k20) (My.Gu KX G (by intros; rfl) ?a21 ?l21 ?c21 ?k21) (My.Gu KX G (by intros; rfl) ?a22 ?l22 ?c22 ?k22) (My.Gu KX G (by intros; rfl) ?a23 ?l23 ?c23 ?k23) (My.Hb KX G (by intros; rfl) ?a24 ?l24 ?c24 ?k24) (My.Gu KX G (by intros; rfl) ?a25 ?l25 ?c25 ?k25) (My.Gu KX G (by intros; rfl) ?a26 ?l26 ?c26 ?k26) ?a27 ?l27 ?c27 ?k27 ?z1 ?z2 ?z3 ?z4 ?z5 ?z6 ?z7 ?z8 ?z9 ?z10 ?z11 ?z12 ?z13 ?z14 ?w0 ?w1 ?w2 ?x0 ?x1 ?x2 ?x3 ?yg ?yt ?ya0 ?yb0 ?yc0 ?yd0 ?ye0 ?yf0 ?yh0 ?yi0 ?yj0 ?yk0 ?yb1 ?yc1 ?yd1 ?ye1 ?yf1 ?yh1 ?yi1 ?yj1 ?yk1 ?ya2 ?yb2 ?yc2 ?yd2 ?ye2 ?yf2 ?yh2 ?yi2 ?yj2 ?yk2 ?ya3 ?yb3 ?yc3 ?yd3 ?ye3 ?yf3 ?yh3 ?yi3 ?yj3 ?yk3 ?yl0_0 ?yl0_1 ?yl0_2 ?yl0_3 ?yl1_0 ?yl1_1 ?yl1_2 ?yl1_3 ?yl2_0 ?yl2_1 ?yl2_2 ?yl2_3 ?yl3_0 ?yl3_1 ?yl3_2 ?yl3_3
    (case a1 => k_is); (case l1 => k_is); (case c1 => k_is); (case k1 => k_is); (case a2 => k_is); (case l2 => k_is); (case c2 => k_is); (case k2 => k_is); (case a3 => k_is); (case l3 => k_is); (case c3 => k_is); (case k3 => k_is); (case a4 => k_is); (case l4 => k_is); (case c4 => k_is); (case k4 => k_is); (case a5 => k_is); (case l5 => k_is); (case c5 => k_is); (case k5 => k_is); (case a6 => k_is); (case l6 => k_is); (case c6 => k_is); (case k6 => k_is); (case a7 => k_is); (case l7 => k_is); (case c7 => k_is); (case k7 => k_is); (case a8 => k_is); (case l8 => k_is); (case c8 => k_is); (case k8 => k_is); (case a9 => k_is); (case l9 => k_is); (case c9 => k_is); (case k9 => k_is); (case a10 => k_is); (case l10 => k_is); (case c10 => k_is); (case k10 => k_is); (case a11 => k_is); (case l11 => k_is); (case c11 => k_is); (case k11 => k_is); (case a12 => k_is); (case l12 => k_is); (case c12 => k_is); (case k12 => k_is); (case a13 => k_is); (case l13 => k_is); (case c13 => k_is); (case k13 => k_is); (case a14 => k_is); (case l14 => k_is); (case c14 => k_is); (case k14 => k_is); (case a15 => k_is); (case l15 => k_is); (case c15 => k_is); (case k15 => k_is); (case a16 => k_is); (case l16 => k_is); (case c16 => k_is); (case k16 => k_is); (case a17 => k_is); (case l17 => k_is); (case c17 => k_is); (case k17 => k_is); (case a18 => k_is); (case l18 => k_is); (case c18 => k_is); (case k18 => k_is); (case a19 => k_is); (case l19 => k_is); (case c19 => k_is); (case k19 => k_is); (case a20 => k_is); (case l20 => k_is); (case c20 => k_is); (case k20 => k_is); (case a21 => k_is); (case l21 => k_is); (case c21 => k_is); (case k21 => k_is); (case a22 => k_is); (case l22 => k_is); (case c22 => k_is); (case k22 => k_is); (case a23 => k_is); (case l23 => k_is); (case c23 => k_is); (case k23 => k_is); (case a24 => k_is); (case l24 => k_is); (case c24 => k_is); (case k24 => k_is); (case a25 => k_is); (case l25 => k_is); (case c25 => k_is); (case k25 => k_is); (case a26 => k_is); (case l26 => k_is); (case c26 => k_is); (case k26 => k_is); (case a27 => k_is); (case l27 => k_is); (case c27 => k_is); (case k27 => k_is); (case z1 => k_is); (case z2 => k_is); (case z3 => k_is); (case z4 => k_is); (case z5 => k_is); (case z6 => k_is); (case z7 => k_is); (case z8 => k_is); (case z9 => k_is); (case z10 => k_is); (case z11 => k_is); (case z12 => k_is); (case z13 => k_is); (case z14 => k_is); (case w0 => k_is); (case w1 => k_is); (case w2 => k_is); (case x0 => k_is); (case x1 => k_is); (case x2 => k_is); (case x3 => k_is); (case yg => k_is); (case yt => k_is); (case ya0 => k_exc); (case yb0 => k_is); (case yc0 => k_is); (case yd0 => k_is); (case ye0 => k_is); (case yf0 => k_is); (case yh0 => k_is); (case yi0 => k_is); (case yj0 => k_is); (case yk0 => k_is); (case yb1 => k_is); (case yc1 => k_is); (case yd1 => k_is); (case ye1 => k_is); (case yf1 => k_is); (case yh1 => k_is); (case yi1 => k_is); (case yj1 => k_is); (case yk1 => k_is); (case ya2 => k_exc); (case yb2 => k_is); (case yc2 => k_is); (case yd2 => k_is); (case ye2 => k_is); (case yf2 => k_is); (case yh2 => k_is); (case yi2 => k_is); (case yj2 => k_is); (case yk2 => k_is); (case ya3 => k_exc); (case yb3 => k_is); (case yc3 => k_is); (case yd3 => k_is); (case ye3 => k_is); (case yf3 => k_is); (case yh3 => k_is); (case yi3 => k_is); (case yj3 => k_is); (case yk3 => k_is); (case yl0_0 => k_is); (case yl0_1 => k_is); (case yl0_2 => k_is); (case yl0_3 => k_is); (case yl1_0 => k_is); (case yl1_1 => k_is); (case yl1_2 => k_is); (case yl1_3 => k_is); (case yl2_0 => k_is); (case yl2_1 => k_is); (case yl2_2 => k_is); (case yl2_3 => k_is); (case yl3_0 => k_is); (case yl3_1 => k_is); (case yl3_2 => k_is); (case yl3_3 => k_is)
