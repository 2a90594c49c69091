import PyProof.Rows.All
import Wide.All
import OpenK.AllK
import Wide.FinOn
import Lean
import PyProof.EqAt
import PyProof.EqKinds
import PyProof.TupleCall
import PySem.Challenge.RW_plait_k11_first_fault
set_option Elab.async false
set_option linter.all false
set_option maxRecDepth 100000
set_option maxHeartbeats 4000000
namespace L2
open PySem PySem.Spec PyProof.Rows
noncomputable abbrev Key:=Sum Int Str
noncomputable def GC:Key->Value->Bool
 | .inl k,v=>Value.isInt k v
 | .inr x,v=>Value.isStrOf x v
noncomputable def LW (w:World):Key->Int
 | .inl k=>hashInt k
 | .inr x=>hashStr w x
theorem Yr:∀{k:Key}{v:Value},GC k v=true->(∃i t,k=Sum.inl i/\v=Value.int i t)∨(∃x t,k=Sum.inr x/\v=Value.str x t)
 | .inl i,v,h=>by
  obtain⟨t,e⟩:=Value.isInt_shape (k:=i) (v:=v) h
  exact .inl ⟨i,t,rfl,e⟩
 | .inr x,v,h=>by
  obtain⟨t,e⟩:=Value.isStrOf_shape (x:=x) (v:=v) h
  exact .inr ⟨x,t,rfl,e⟩
theorem Dp (i:Int)(t:Tok):GC (.inl i) (.int i t)=true:=by simp[GC,Value.isInt]
theorem Dm (x:Str)(t:Tok):GC (.inr x) (.str x t)=true:=by simp[GC,Value.isStrOf]
theorem HV (a b:Int):decide ((Sum.inl a:Key)=Sum.inl b)=(a==b):=by
 by_cases e:a=b
 ·subst e;simp
 ·have h:¬(Sum.inl a:Key)=Sum.inl b:=λq=>e (Sum.inl.inj q)
  rw[decide_eq_false h]
  exact(beq_eq_false_iff_ne.mpr e).symm
theorem HM (a b:Str):decide ((Sum.inr a:Key)=Sum.inr b)=decide (a=b):=by
 by_cases e:a=b
 ·subst e;simp
 ·have h:¬(Sum.inr a:Key)=Sum.inr b:=λq=>e (Sum.inr.inj q)
  rw[decide_eq_false h,decide_eq_false e]
theorem Im (a:Int)(b:Str):decide ((Sum.inl a:Key)=Sum.inr b)=false:=decide_eq_false (λq=>nomatch q)
theorem Iz (a:Str)(b:Int):decide ((Sum.inr a:Key)=Sum.inl b)=false:=decide_eq_false (λq=>nomatch q)
noncomputable def Yp (prog:Program)(w:World):PySem.KeyKind prog w Key where
 is:=GC
 hash:=LW w
 inj:=λv a b ha hb=>by
  rcases Yr ha with⟨i,t,rfl,rfl⟩ | ⟨x,t,rfl,rfl⟩
  ·rcases Yr hb with⟨j,u,rfl,e⟩ | ⟨y,u,rfl,e⟩
   ·injection e with e1 _;rw[e1]
   ·exact nomatch e
  ·rcases Yr hb with⟨j,u,rfl,e⟩ | ⟨y,u,rfl,e⟩
   ·exact nomatch e
   ·injection e with e1 _;rw[e1]
 byValue:=λk v h=>by
  rcases Yr h with⟨i,t,rfl,rfl⟩ | ⟨x,t,rfl,rfl⟩<;> rfl
 pyHash:=λhv h=>by
  rcases Yr hv with⟨i,t,rfl,rfl⟩ | ⟨x,t,rfl,rfl⟩
  ·exact wpAny_pyHash_int h
  ·exact wpAny_pyHash_str h
 eqBool:=λhu hv h=>by
  rcases Yr hu with⟨i,t,rfl,rfl⟩ | ⟨x,t,rfl,rfl⟩
  ·rcases Yr hv with⟨j,u,rfl,rfl⟩ | ⟨y,u,rfl,rfl⟩
   ·rw[HV] at h;exact wpAny_eqBool_int h
   ·rw[Im] at h;exact SeqAt.EqAt.int_str i t y u _ _ _ _ h
  ·rcases Yr hv with⟨j,u,rfl,rfl⟩ | ⟨y,u,rfl,rfl⟩
   ·rw[Iz] at h;exact SeqAt.EqAt.str_int x t j u _ _ _ _ h
   ·rw[HM] at h;exact wpAny_eqBool_str h
 «strs»:=λk x t v h=>by
  rcases Yr h with⟨i,u,rfl,e⟩ | ⟨y,u,rfl,e⟩
  ·exact nomatch e
  ·injection e with e1 _
   subst e1
   cases v<;> rfl
theorem Kw (prog:Program)(w:World)(i:Int)(t:Tok):(Yp prog w).is (.inl i) (.int i t)=true:=Dp i t
theorem Kz (prog:Program)(w:World)(x:Str)(t:Tok):(Yp prog w).is (.inr x) (.str x t)=true:=Dm x t
inductive V where
 |non |bl (b:Bool) |int (i:Int) |str (x:Str) |byt (b:Array UInt8) |flt (b:UInt64) |ref (a:Addr) |ty (n:String)
 deriving DecidableEq
noncomputable def X8:V->Value->Prop
 | .non,u=>u=Value.none
 | .bl b,u=>u=Value.bool b
 | .int i,u=>∃ t,u=Value.int i t
 | .str x,u=>∃ t,u=Value.str x t
 | .byt b,u=>∃ t,u=Value.bytes b t
 | .flt b,u=>∃ t,u=Value.float b t
 | .ref a,u=>u=Value.ref a
 | .ty n,u=>u=Value.type n
noncomputable abbrev Yg:List V->List Value->Prop:=Paired X8
theorem Yg.length {xs:List V}{us:List Value}(r:Yg xs us):xs.length=us.length:=Paired.length r
theorem Yg.get:∀{xs:List V}{us:List Value}{i:Nat}{x:V},Yg xs us->xs[i]?=some x->∃u,us[i]?=some u/\X8 x u
 |_,_,_,_, .nil,e=>by simp at e
 |_,_,0,_, .cons r _,e=>by simp at e;subst e;exact⟨_,rfl,r⟩
 |_,_,i+1,x, .cons _ t,e=>by
  obtain⟨u,h1,h2⟩:=Yg.get (i:=i) (x:=x) t (by simpa using e)
  exact⟨u,by simpa using h1,h2⟩
theorem Yg.set {x:V}{u:Value}(r:X8 x u):∀{xs:List V}{us:List Value} (i:Nat),Yg xs us->Yg (xs.set i x) (us.set i u)
 |_,_,_, .nil=>.nil
 |_,_,0, .cons _ t=>.cons r t
 |_,_,i+1, .cons q t=>.cons q (Yg.set r i t)
theorem Yg.append:∀{xs ys:List V}{us ws:List Value},Yg xs us->Yg ys ws->Yg (xs++ys) (us++ws):=λp s=>by
 induction p with
 |nil=>exact s
 |cons r _ ih=>exact .cons r ih
theorem Yg.take:∀{xs:List V}{us:List Value} (n:Nat),Yg xs us->Yg (xs.take n) (us.take n)
 |_,_,0,_=>.nil
 |_,_,_+1, .nil=>.nil
 |_,_,n+1, .cons r t=>.cons r (Yg.take n t)
theorem Yg.drop:∀{xs:List V}{us:List Value} (n:Nat),Yg xs us->Yg (xs.drop n) (us.drop n)
 |_,_,0,r=>r
 |_,_,_+1, .nil=>.nil
 |_,_,n+1, .cons _ t=>Yg.drop n t
noncomputable def KC:Option V->Option Value->Prop
 |some v,some u=>X8 v u
 |none,none=>True
 |_,_=>False
noncomputable def KV {κ:Type}:List (κ×V)->List (κ×Value)->Prop:=Paired λ(p:κ×V) (q:κ×Value)=>p.1=q.1/\X8 p.2 q.2
noncomputable def kV:Key->V
 | .inl i=>.int i
 | .inr x=>.str x
inductive HO where
 /-- a list -/
 |lst (xs:List V)
 /-- a tuple (never changes) -/
 |tup (xs:List V)
 /-- a dict whose keys are ints and texts; one whose keys are tuples of ints and texts (the empty one is both) -/
 |dK (kvs:List (Key×V)) |dT (kvs:List (List Key×V))
 /-- a set of ints: its members, its size -/
 |set (S:Int->Bool) (n:Nat)
 /-- an instance of the class at C, its dict at dx, its attributes -/
 |ins (C dx:Addr) (fs:List (Str×V))
 /-- the dict of the instance at x -/
 |own (x:Addr)
 /-- the dict of an exception -/
 |xd (fs:List (Str×V))
 /-- a bound method, f of x -/
 |met (f x:Addr)
 /-- a range object lo, lo + 1, .. below hi -/
 |rng (lo hi:Int)
 /-- a thing that is known to the object (the script; a dict while a loop walks it): read, never written while it is so -/
 |frz (o:Obj) (u:HO)
 /-- a code object's table -/
 |tbl (ps:Array Value)
 /-- any other thing, by what is true of its one object (a def of one's own: SetO a S n:=HO.ext λh=>..) -/
 |ext (φ:Heap->Prop)
noncomputable abbrev Hp:=Addr->Option HO
noncomputable def upd (H:Hp)(a:Addr)(o:HO):Hp:=λb=>if b=a then some o else H b
theorem XL {H:Hp}{a:Addr}{o:HO}:upd H a o a=some o:=by unfold upd;rw[if_pos rfl]
theorem Xv {H:Hp}{a b:Addr}{o:HO}(h:b≠a):upd H a o b=H b:=by unfold upd;rw[if_neg h]
theorem Lw {H:Hp}{a b:Addr}{o u:HO}(h:H a=some o)(h':H b=some u)(d:o≠u):a≠b:=by
 intro e;subst e;rw[h] at h';exact d (Option.some.inj h')
theorem XF {H:Hp}{a b:Addr}{o:HO}(h:H a=some o)(h':H b=none):a≠b:=by
 intro e;subst e;rw[h] at h';cases h'
noncomputable def VJ (h:Heap)(a:Addr)(items:Array Value):Prop:=∃ o,h.get? a=some o/\(o.cls= .type "tuple" /\o.dict=none)/\∃n,o.data= .seq items n
theorem VJ.t {h:Heap}{a:Addr}{items:Array Value}(x:VJ h a items):IsTup h a items:=let ⟨o,ho,c,r⟩:=x;⟨o,ho,c.1,r⟩
theorem VJ.new (h:Heap)(items:Array Value):VJ (h.push {cls:=.type "tuple",data:=.seq items}) h.objs.size items:=⟨_,Heap.get?_push_size _ rfl,⟨rfl,rfl⟩,_,rfl⟩
section
variable (P:Program)(w:World)
noncomputable def YB (H:Hp)(h:Heap)(a:Addr):HO->Prop
 | .lst xs=>xs.length<=sizeLine/\∃(its:List Value) (n:Nat),Yg xs its/\h.get? a=some {cls:=.type "list",data:=.seq its.toArray n}
 | .tup xs=>xs.length<=sizeLine/\∃its:List Value,Yg xs its/\VJ h a its.toArray
 | .dK kvs=>kvs.length<=sizeLine/\(a==sysModules)=false/\∃vs,KV kvs vs/\h.DictOf (Yp P w) a vs
 | .dT kvs=>kvs.length<=sizeLine/\(a==sysModules)=false/\∃xs:List (List Key×Addr×Value),
   Paired (λ(p:List Key×V) (q:List Key×Addr×Value)=>p.1=q.1/\H q.2.1=some (.tup (p.1.map kV))/\X8 p.2 q.2.2) kvs xs/\
   ∃o es ep,h.get? a=some o/\o.ExactDict/\o.data= .dict es ep/\es.toList=xs.map (entryOfKey (tupleKind (Yp P w)))/\(xs.map (·.1)).Nodup
 | .set S n=>h.SetOf (intKind P w) a S n
 | .ins C dx fs=>H dx=some (.own a)/\fs.length<=1000/\dx≠a/\h.get? a=some (PySem.W.instObj C dx)/\
   ∃mA,h.Ns1 dx mA/\(∀f,KC (fs.lookup f) (mA f))/\PySem.Within mA (fs.map (·.1))
 | .own _=>∃ o,h.get? a=some o
 | .xd fs=>∃ mA,h.Ns1 a mA/\∀f,KC (fs.lookup f) (mA f)
 | .rng lo hi=>∃ t u v,h.get? a=some {cls:=.type "range",data:=.fields #[.int lo t, .int hi u, .int 1 v]}
 | .frz o u=>h.get? a=some o/\YB H h a u
 | .tbl ps=>h.get? a=some {cls:=.none,data:=.fields ps}
 | .met f x=>h.get? a=some (PySem.W.methodObj (.ref f) (.ref x))
 | .ext φ=>φ h/\(∃o,h.get? a=some o)/\∀h1 h2:Heap,φ h1->(∀o,h1.get? a=some o->h2.get? a=some o)->φ h2
noncomputable def HOk (H:Hp)(h:Heap):Prop:=∀ a o,H a=some o->YB P w H h a o
end
section
variable {P:Program}{w:World}{H H':Hp}{h h':Heap}{a:Addr}{o:HO}
theorem YB.lt (x:YB P w H h a o):a<h.objs.size:=by
 cases o with
 |lst xs=>obtain⟨_,_,_,_,e⟩:=x;exact Heap.lt_size e
 |tup xs=>obtain⟨_,_,_,p⟩:=x;exact p.t.lt
 |dK kvs=>obtain⟨_,_,_,_,o,_,_,e,_⟩:=x;exact Heap.lt_size e
 |dT kvs=>obtain⟨_,_,_,_,o,_,_,e,_⟩:=x;exact Heap.lt_size e
 |set S n=>obtain⟨o,_,_,_,e,_⟩:=x;exact Heap.lt_size e
 |ins C dx fs=>obtain⟨_,_,_,e,_⟩:=x;exact Heap.lt_size e
 |own y=>obtain⟨_,e⟩:=x;exact Heap.lt_size e
 |xd fs=>obtain⟨_,⟨_,_,_,e,_⟩,_⟩:=x;exact Heap.lt_size e
 |rng lo hi=>obtain⟨_,_,_,e⟩:=x;exact Heap.lt_size e
 |frz ob u=>obtain⟨e,_⟩:=x;exact Heap.lt_size e
 |tbl ps=>exact Heap.lt_size (show h.get? a=some _ from x)
 |met f y=>exact Heap.lt_size (show h.get? a=some _ from x)
 |ext φ=>obtain⟨_,⟨_,e⟩,_⟩:=x;exact Heap.lt_size e
theorem Paired.mapP {α β:Type}{F G:α->β->Prop}:∀{l₁:List α}{l₂:List β},Paired F l₁ l₂->(∀a b,F a b->G a b)->Paired G l₁ l₂:=λp f=>by
 induction p with
 |nil=>exact .nil
 |cons r _ ih=>exact .cons (f _ _ r) ih
theorem YB.stay (x:YB P w H h a o)(k:∀b u,(b=a∨H b=some (.own a))->h.get? b=some u->h'.get? b=some u)
  (ho:∀b,H b=some (.own a)->H' b=some (.own a))(ht:∀b xs,H b=some (.tup xs)->H' b=some (.tup xs)):YB P w H' h' a o:=by
 induction o with
 |lst xs=>obtain⟨z,its,n,r,e⟩:=x;exact⟨z,its,n,r,k _ _ (.inl rfl) e⟩
 |tup xs=>obtain⟨z,its,r,ob,e,c⟩:=x;exact⟨z,its,r,ob,k _ _ (.inl rfl) e,c⟩
 |dK kvs=>obtain⟨z,y,vs,r,ob,es,ep,e,c⟩:=x;exact⟨z,y,vs,r,ob,es,ep,k _ _ (.inl rfl) e,c⟩
 |dT kvs=>
  obtain⟨z,y,xs,r,ob,es,ep,e,c⟩:=x
  exact⟨z,y,xs,Paired.mapP r λp q z=>⟨z.1,ht _ _ z.2.1,z.2.2⟩,ob,es,ep,k _ _ (.inl rfl) e,c⟩
 |set S n=>obtain⟨ob,es,ep,t,e,c⟩:=x;exact⟨ob,es,ep,t,k _ _ (.inl rfl) e,c⟩
 |ins C dx fs=>
  obtain⟨d,z,ne,e,mA,⟨od,es,ep,e2,c⟩,r⟩:=x
  exact⟨ho _ d,z,ne,k _ _ (.inl rfl) e,mA,⟨od,es,ep,k _ _ (.inr d) e2,c⟩,r⟩
 |own y=>obtain⟨ob,e⟩:=x;exact⟨ob,k _ _ (.inl rfl) e⟩
 |xd fs=>obtain⟨mA,⟨od,es,ep,e,c⟩,r⟩:=x;exact⟨mA,⟨od,es,ep,k _ _ (.inl rfl) e,c⟩,r⟩
 |rng lo hi=>obtain⟨t,u,v,e⟩:=x;exact⟨t,u,v,k _ _ (.inl rfl) e⟩
 |frz ob u ih=>obtain⟨e,q⟩:=x;exact⟨k _ _ (.inl rfl) e,ih q⟩
 |tbl ps=>
  have e:h.get? a=some {cls:=.none,data:=.fields ps}:=x
  show h'.get? a=some {cls:=.none,data:=.fields ps}
  exact k a _ (.inl rfl) e
 |met f y=>
  have e:h.get? a=some (PySem.W.methodObj (.ref f) (.ref y)):=x
  show h'.get? a=some (PySem.W.methodObj (.ref f) (.ref y))
  exact k a _ (.inl rfl) e
 |ext φ=>obtain⟨p,⟨o,e⟩,st⟩:=x;exact⟨st _ _ p λo q=>k _ _ (.inl rfl) q,⟨o,k _ _ (.inl rfl) e⟩,st⟩
theorem HOk.lt (x:HOk P w H h)(e:H a=some o):a<h.objs.size:=(x a o e).lt
theorem HOk.fresh (x:HOk P w H h)(e:h.objs.size<=a):H a=none:=by
 cases q:H a with
 |none=>rfl
 |some u=>exact absurd (Nat.lt_of_lt_of_le (x.lt q) e) (Nat.lt_irrefl _)
theorem HOk.kept (x:HOk P w H h)(k:∀b u,h.get? b=some u->h'.get? b=some u):HOk P w H h':=λa o e=>
 (x a o e).stay (λb u _ q=>k b u q) (λ_ q=>q) λ_ _ q=>q
theorem HOk.laid (x:HOk P w H h)(k:∀b u,h.get? b=some u->h'.get? b=some u)(hp:h.objs.size<=a)(new:YB P w (upd H a o) h' a o):HOk P w (upd H a o) h':=λb u e=>by
 have hn:=x.fresh hp
 by_cases hb:b=a
 ·subst hb;rw[XL] at e;cases e;exact new
 ·rw[Xv hb] at e
  exact(x b u e).stay (λc v _ q=>k c v q) (λc q=>by rw[Xv (XF q hn)];exact q) λc xs q=>by rw[Xv (XF q hn)];exact q
end
noncomputable def Rd (H:Hp)(a:Addr)(u:HO):Prop:=H a=some u∨∃o,H a=some (.frz o u)
theorem Rd.of {H:Hp}{a:Addr}{u:HO}(h:H a=some u):Rd H a u:=.inl h
theorem Rd.ok {P:Program}{w:World}{H:Hp}{h:Heap}{a:Addr}{u:HO}(r:Rd H a u)(x:HOk P w H h):YB P w H h a u:=by
 rcases r with r | ⟨o,r⟩
 ·exact x a u r
 ·obtain⟨_,q⟩:=x a _ r
  exact q
noncomputable def Mut:Option HO->Prop
 |some (.lst _)=>True
 |some (.dK _)=>True
 |some (.dT _)=>True
 |some (.set _ _)=>True
 |some (.ins _ _ _)=>True
 |some (.ext _)=>True
 |_=>False
section
variable {P:Program}{w:World}{H:Hp}{h h':Heap}{x e:Addr}{o':HO}
theorem HOk.write (ok:HOk P w H h)(mu:Mut (H x))(he:e=x∨H e=some (.own x))(k:∀b u,b≠e->h.get? b=some u->h'.get? b=some u)(heo:∃u,h'.get? e=some u)
  (new:YB P w (upd H x o') h' x o'):HOk P w (upd H x o') h':=λb u q=>by
 have nown:∀c y,H c=some (.own y)->c≠x:=λc y r z=>by subst z;rw[r] at mu;exact mu
 have ntup:∀c xs,H c=some (.tup xs)->c≠x:=λc xs r z=>by subst z;rw[r] at mu;exact mu
 by_cases hb:b=x
 ·subst hb;rw[XL] at q;cases q;exact new
 ·rw[Xv hb] at q
  by_cases hbe:b=e
  ·have q':H b=some (.own x):=by
    rcases he with z |z
    ·exact absurd (hbe.trans z) hb
    ·rw[hbe];exact z
   rw[q] at q';cases q'
   obtain⟨v,hv⟩:=heo
   exact⟨v,by rw[hbe];exact hv⟩
  ·refine(ok b u q).stay (λc v hc r=>k c v ?_ r) (λc r=>by rw[Xv (nown c b r)];exact r) λc xs r=>by rw[Xv (ntup c xs r)];exact r
   rcases hc with rfl |hc
   ·exact hbe
   ·rintro rfl
    rcases he with z |z
    ·exact nown c b hc z
    ·rw[hc] at z;cases z;exact hb rfl
end
structure Un (fs ex:List Addr)(H H':Hp)(h h':Heap):Prop where
 keep:∀b o,h.get? b=some o->H b=none->b∉fs->b∉ex->h'.get? b=some o
 slot:∀b o,h.get? b=some o->H b=none->b∈fs->b∉ex->∃sl,h'.get? b=some {o with slots:=sl}
 free:∀b o,h.get? b=some o->H b=none->b∉ex->H' b=none
 there:∀b o,h.get? b=some o->b∉ex->∃o',h'.get? b=some o'
 tups:∀b xs,H b=some (.tup xs)->H' b=some (.tup xs)
 frzs:∀b o u,H b=some (.frz o u)->H' b=some (.frz o u)
 tbls:∀b ps,H b=some (.tbl ps)->∃more,H' b=some (.tbl (ps++more))
section
variable {fs fs' ex ex':List Addr}{H H1 H2:Hp}{h h1 h2 h':Heap}{a x e:Addr}{o:HO}
theorem Un.any (u:Un fs ex H H1 h h1){b:Addr}{ob:Obj}(q:h.get? b=some ob)(n:H b=none)(hx:b∉ex):∃sl,h1.get? b=some {ob with slots:=sl}:=by
 by_cases hb:b∈fs
 ·exact u.slot b ob q n hb hx
 ·exact⟨ob.slots,u.keep b ob q n hb hx⟩
theorem Un.trans (a:Un fs ex H H1 h h1)(b:Un fs ex H1 H2 h1 h2):Un fs ex H H2 h h2 where
 keep:=λc ob q n hc hx=>b.keep c ob (a.keep c ob q n hc hx) (a.free c ob q n hx) hc hx
 slot:=λc ob q n hc hx=>by
  obtain⟨sl,e1⟩:=a.slot c ob q n hc hx
  obtain⟨sl',e2⟩:=b.slot c _ e1 (a.free c ob q n hx) hc hx
  exact⟨sl',e2⟩
 free:=λc ob q n hx=>by
  obtain⟨o',e1⟩:=a.there c ob q hx
  exact b.free c o' e1 (a.free c ob q n hx) hx
 there:=λc ob q hx=>by
  obtain⟨o',e1⟩:=a.there c ob q hx
  exact b.there c o' e1 hx
 tups:=λc xs q=>b.tups c xs (a.tups c xs q)
 frzs:=λc ob xs q=>b.frzs c ob xs (a.frzs c ob xs q)
 tbls:=λc ps q=>by
  obtain⟨m1,e1⟩:=a.tbls c ps q
  obtain⟨m2,e2⟩:=b.tbls c _ e1
  exact⟨m1++m2,by rw[e2,Array.append_assoc]⟩
theorem Un.kept (k:∀b u,h.get? b=some u->h'.get? b=some u):Un fs ex H H h h':=
 ⟨λb ob q _ _ _=>k b ob q,λb ob q _ _ _=>⟨ob.slots,k b ob q⟩,λ_ _ _ n _=>n,λb ob q _=>⟨ob,k b ob q⟩,λ_ _ q=>q,λ_ _ _ q=>q,λ_ ps q=>⟨#[],by rw[q];simp⟩⟩
theorem Un.refl:Un fs ex H H h h:=Un.kept λ_ _ q=>q
theorem Un.laid (k:∀b u,h.get? b=some u->h'.get? b=some u)(hp:h.objs.size<=a)(hn:H a=none):Un fs ex H (upd H a o) h h' where
 keep:=λb u q _ _ _=>k b u q
 slot:=λb u q _ _ _=>⟨u.slots,k b u q⟩
 free:=λb u q n _=>by rw[Xv (Nat.ne_of_lt (Nat.lt_of_lt_of_le (Heap.lt_size q) hp))];exact n
 there:=λb u q _=>⟨u,k b u q⟩
 tups:=λb xs q=>by rw[Xv (XF q hn)];exact q
 frzs:=λb u xs q=>by rw[Xv (XF q hn)];exact q
 tbls:=λb ps q=>⟨#[],by rw[Xv (XF q hn),q];simp⟩
theorem Un.write (mu:Mut (H x))(he:e=x∨H e=some (.own x))(k:∀b u,b≠e->h.get? b=some u->h'.get? b=some u)(heo:∃u,h'.get? e=some u):Un fs ex H (upd H x o) h h':=by
 have hx:∀b,H b=none->b≠x:=λb n z=>by subst z;rw[n] at mu;exact mu
 have hb:∀b,H b=none->b≠e:=λb n z=>by
  subst z
  rcases he with r |r
  ·exact hx b n r
  ·rw[n] at r;cases r
 have hm:∀b u,H b=some u->¬Mut (some u)->b≠x:=λb u q nm z=>by subst z;rw[q] at mu;exact nm mu
 refine⟨λb u q n _ _=>k b u (hb b n) q,λb u q n _ _=>⟨u.slots,k b u (hb b n) q⟩,λb u q n _=>by rw[Xv (hx b n)];exact n,λb u q _=>?_,
  λb xs q=>by rw[Xv (hm b _ q λz=>z)];exact q,λb u xs q=>by rw[Xv (hm b _ q λz=>z)];exact q,λb ps q=>⟨#[],by rw[Xv (hm b _ q λz=>z),q];simp⟩⟩
 by_cases hbe:b=e
 ·subst hbe;exact heo
 ·exact⟨u,k b u hbe q⟩
theorem Un.mono (u:Un fs ex H H1 h h1)(hs:∀b∈fs,b∈fs')(hx:∀b∈ex,b∈ex'):Un fs' ex' H H1 h h1:=
 ⟨λb ob q n hb he=>u.keep b ob q n (λz=>hb (hs b z)) λz=>he (hx b z),λ_ _ q n _ he=>u.any q n λz=>he (hx _ z),λb ob q n he=>u.free b ob q n λz=>he (hx b z),λb ob q he=>u.there b ob q λz=>he (hx b z),u.tups,u.frzs,u.tbls⟩
end
noncomputable def trk (h:Heap)(H:Hp):List Addr:=(List.range h.objs.size).filter λa=>(H a).isSome
noncomputable def DZ (h:Heap)(H:Hp):Heap:=PySem.W.hideAll h (trk h H)
theorem Dj (h:Heap)(H:Hp):(DZ h H).objs.size=h.objs.size:=PySem.W.hideAll_size _ _
theorem Gq {h:Heap}{H:Hp}{b:Addr}{o:Obj}(e:h.get? b=some o)(n:H b=none):(DZ h H).get? b=some o:=
 PySem.W.hideAll_get _ e λhm=>by
  have q:(H b).isSome=true:=(List.mem_filter.mp hm).2
  rw[n] at q;simp at q
theorem Dr {h:Heap}{H:Hp}{b:Addr}{o:Obj}(e:(DZ h H).get? b=some o):h.get? b=some o/\H b=none:=by
 have e':h.get? b=some o:=PySem.W.of_hideAll (trk h H) e
 refine⟨e',?_⟩
 cases q:H b with
 |none=>rfl
 |some x=>
  have hm:b∈trk h H:=List.mem_filter.mpr ⟨List.mem_range.mpr (Heap.lt_size e'),by simp[q]⟩
  have z:(DZ h H).get? b=none:=PySem.W.hideAll_none (trk h H) hm
  rw[z] at e;cases e
noncomputable def EF (g h:Heap)(L:Addr):List (Addr×Obj):=(List.range h.objs.size).filterMap λa=>if a=L∨(g.get? a).isSome=true then none else(h.get? a).map λo=>(a,o)
noncomputable def Y1 (g h:Heap)(L d:Addr):List (Addr×Obj):=(EF g h L).filter λp=>decide (p.1≠d)
structure Mod (K:PySem.W.Frag)(mg:Str->Option Value)(base:Heap):Prop where
 kin:K.In base
 glob:base.Ns mainGlobals mg
 blt:∃mb,base.Ns builtinsNs mb/\∀x:Str,x≠ "__name__" ->mb x=bootBuiltins x
 nolimit:base.NoLimit
structure Cx where
 prog:Program
 w:World
 K:PySem.W.Frag
 mg:Str->Option Value
 base:Heap
 A:Around
 N:List Str
 s₀:Shared
 H₀:Hp
 env:Env
 outer:List Env
 stack:List Env
 ex:List Addr
 fn:Str->Bool
 calm:Bool
 pn:List (Addr×Obj)
 xe:Value->Shared->Prop
noncomputable def frs (l:List Env):List Addr:=l.filterMap (·.frame)
noncomputable abbrev Cx.fs (X:Cx):List Addr:=frs X.outer
noncomputable def Vis (sc:Scope)(x:Str):Prop:=sc.names.lookup x=some .local∨sc.names.lookup x=some .cell∨sc.names.lookup x=some .free
noncomputable def Loc (sc:Scope)(x:Str):Prop:=sc.names.lookup x=some .local∨sc.names.lookup x=some .cell
noncomputable def LQ (env:Env)(h:Heap)(m:Str->Option Value)(x:Str)(u:Value):Prop:=
 (env.kindOf x=some .local/\m x=some u)∨((env.kindOf x=some .cell∨env.kindOf x=some .free)/\∃c,env.cells.lookup x=some c/\h.IsCell c (some u))
structure Cx.Ok (X:Cx):Prop where
 mod:Mod X.K X.mg X.base
 kind:X.env.scope.kind= .function
 glob:X.env.globals=mainGlobals
 blt:X.env.builtins=builtinsNs
 above:X.s₀.heap.objs.size<=X.env.locals
 inj:∀x y c,X.env.cells.lookup x=some c->X.env.cells.lookup y=some c->x=y
 has:∀x,(X.env.kindOf x=some .cell∨X.env.kindOf x=some .free)->∃c,X.env.cells.lookup x=some c
 cab:∀x c,X.fn x=true->X.env.cells.lookup x=some c->X.s₀.heap.objs.size<=c
 hd:X.calm=true->X.A.handled=none
 frames:X.A.frames=some X.stack
 stk:X.stack=X.outer∨(X.stack=X.env::X.outer/\X.env.frame=some X.env.locals)
 exf:∀b∈X.ex,b≠X.env.locals/\∀x c,X.env.cells.lookup x=some c->c≠b
 bs:∀b o,X.base.get? b=some o->X.s₀.heap.get? b=some o/\X.H₀ b=none
 bsz:X.base.objs.size<=X.s₀.heap.objs.size
 noex:∀b o,X.base.get? b=some o->b∉X.ex
 exfs:∀b∈X.ex,b∉X.fs
 funs:X.s₀.heap.FunFrames X.base X.outer
 frf:∀b∈X.fs,X.H₀ b=none
structure Inv (X:Cx)(pins:List (Addr×Obj))(σ:List (Option V))(H:Hp)(s:Shared):Prop where
 ok:X.Ok
 os:s.os=X.s₀.os
 bare:AllBare s.gens
 base:Un X.fs X.ex X.H₀ H X.s₀.heap s.heap
 loc:∃m,s.heap.Ns X.env.locals m/\∀(i:Nat) (x:Str) (v:V),X.N[i]?=some x->σ[i]?=some (some v)->Vis X.env.scope x->∃u,X8 v u/\LQ X.env s.heap m x u
 cell:∀x c,X.env.cells.lookup x=some c->∃v,s.heap.IsCell c v
 free:H X.env.locals=none
 freeC:∀x c,X.env.cells.lookup x=some c->H c=none
 pin:∀p∈X.pn++pins,s.heap.get? p.1=some p.2/\H p.1=none/\p.1≠X.env.locals/\p.1∉X.fs/\∀v,p.2.data≠ .cell v
 hok:HOk X.prog X.w H s.heap
 len:σ.length=X.N.length
section
variable {X:Cx}{pins:List (Addr×Obj)}{σ:List (Option V)}{H H':Hp}{s:Shared}{h':Heap}
theorem Cx.Ok.nofr (ok:X.Ok){b:Addr}{o:Obj}(e:X.base.get? b=some o):b∉X.fs:=λhb=>by
 have:=(ok.funs.mem hb).1
 rw[e] at this;cases this
theorem Inv.bs (I:Inv X pins σ H s):∀b o,X.base.get? b=some o->s.heap.get? b=some o/\H b=none:=λb o e=>
 ⟨I.base.keep b o (I.ok.bs b o e).1 (I.ok.bs b o e).2 (I.ok.nofr e) (I.ok.noex b o e),I.base.free b o (I.ok.bs b o e).1 (I.ok.bs b o e).2 (I.ok.noex b o e)⟩
theorem Inv.bk (I:Inv X pins σ H s):∀b o,X.base.get? b=some o->s.heap.get? b=some o:=λb o e=>(I.bs b o e).1
theorem Inv.mod (I:Inv X pins σ H s):Mod X.K X.mg X.base:=I.ok.mod
theorem Inv.kIn (I:Inv X pins σ H s):X.K.In s.heap:=I.ok.mod.kin.keeps I.bk
theorem Inv.nolimit (I:Inv X pins σ H s):s.heap.NoLimit:=I.ok.mod.nolimit.keeps I.bk
theorem Inv.lt (I:Inv X pins σ H s):X.env.locals<s.heap.objs.size:=let ⟨_,hn,_⟩:=I.loc;hn.lt
theorem Inv.sz (I:Inv X pins σ H s):X.s₀.heap.objs.size<=s.heap.objs.size:=Nat.le_trans I.ok.above (Nat.le_of_lt I.lt)
theorem Inv.nofs (I:Inv X pins σ H s){a:Addr}(h:s.heap.objs.size<=a):a∉X.fs:=λhb=>by
 obtain⟨_,o,ho,_⟩:=I.ok.funs.mem hb
 exact absurd (Nat.lt_of_lt_of_le (Heap.lt_size ho) (Nat.le_trans I.sz h)) (Nat.lt_irrefl _)
theorem Inv.cne (I:Inv X pins σ H s):∀x c,X.env.cells.lookup x=some c->c≠X.env.locals:=λx c e z=>by
 obtain⟨v,o,ho,hd⟩:=I.cell x c e
 obtain⟨m,⟨o',es,ep,ho',hd',_⟩,_⟩:=I.loc
 rw[z,ho'] at ho;cases ho;rw[hd'] at hd;cases hd
theorem Inv.funs (I:Inv X pins σ H s):s.heap.FunFrames X.base X.outer:=by
 have all:∀(l:List Env),(∀b∈frs l,b∈X.fs)->X.s₀.heap.FunFrames X.base l->s.heap.FunFrames X.base l:=by
  intro l
  induction l with
  |nil=>intro _ _;trivial
  |cons env r ih=>
   intro hs hl
   obtain⟨hk,⟨L,o,hf,hn,ho,hd⟩,hr⟩:=hl
   have hL:L∈X.fs:=hs L (by unfold frs;rw[List.filterMap_cons,hf];exact List.mem_cons_self)
   obtain⟨sl,e⟩:=I.base.slot L o ho (I.ok.frf L hL) hL λz=>I.ok.exfs L z hL
   exact⟨hk,⟨L,_,hf,hn,e,hd⟩,ih (λb hb=>hs b (by unfold frs;rw[List.filterMap_cons,hf];exact List.mem_cons_of_mem _ hb)) hr⟩
 exact all X.outer (λ_ hb=>hb) I.ok.funs
theorem Inv.stack (I:Inv X pins σ H s):s.heap.FunFrames X.base X.stack:=by
 rcases I.ok.stk with e | ⟨e,hf⟩
 ·rw[e];exact I.funs
 ·rw[e]
  obtain⟨m,hn,_⟩:=I.loc
  refine .cons (by rw[I.ok.kind];decide) hf hn ?_ I.funs
  exact Heap.get?_none_of_le (Nat.le_trans I.ok.bsz I.ok.above)
theorem Inv.stkSub (I:Inv X pins σ H s):∀b∈frs X.stack,b∈X.env.locals::X.fs:=λb hb=>by
 rcases I.ok.stk with e | ⟨e,hf⟩
 ·rw[e] at hb;exact List.mem_cons_of_mem _ hb
 ·rw[e] at hb
  unfold frs at hb
  rw[List.filterMap_cons,hf] at hb
  exact hb
theorem Inv.stkFree (I:Inv X pins σ H s):∀b∈frs X.stack,H b=none:=λb hb=>by
 rcases List.mem_cons.mp (I.stkSub b hb) with e |hb
 ·rw[e];exact I.free
 ·obtain⟨_,o,ho,_⟩:=I.ok.funs.mem hb
  exact I.base.free b o ho (I.ok.frf b hb) λz=>I.ok.exfs b z hb
theorem Inv.step {g':Array GenState}{t':Nat}{d':Drawn}{ch:List Addr}(I:Inv X pins σ H s)
  (hch:∀b∈ch,(b∈X.ex∨X.s₀.heap.objs.size<=b)/\b≠X.env.locals/\(∀x c,X.env.cells.lookup x=some c->c≠b)/\∀p∈X.pn++pins,p.1≠b)
  (keep:∀b o,b≠X.env.locals->b∉X.fs->b∉ch->s.heap.get? b=some o->H b=none->h'.get? b=some o)
  (slot:∀b o,b≠X.env.locals->b∈X.fs->b∉ch->s.heap.get? b=some o->H b=none->∃sl,h'.get? b=some {o with slots:=sl})(free:∀b o,b∉ch->s.heap.get? b=some o->H b=none->H' b=none)
  (there:∀b o,b∉ch->s.heap.get? b=some o->∃o',h'.get? b=some o')
  (tups:∀b xs,H b=some (.tup xs)->H' b=some (.tup xs))(frzs:∀b o u,H b=some (.frz o u)->H' b=some (.frz o u))(tbls:∀b ps,H b=some (.tbl ps)->∃more,H' b=some (.tbl (ps++more)))
  (ns:∀m,s.heap.Ns X.env.locals m->h'.Ns X.env.locals m)(hok:HOk X.prog X.w H' h')(hg:AllBare g'):
  Inv X pins σ H' {s with heap:=h',gens:=g',drawn:=d',toks:=t'}:=by
 have neL:∀b o,X.s₀.heap.get? b=some o->b≠X.env.locals:=λb o e=>Nat.ne_of_lt (Nat.lt_of_lt_of_le (Heap.lt_size e) I.ok.above)
 have neC:∀b o,X.s₀.heap.get? b=some o->b∉X.ex->b∉ch:=λb o e hx hb=>by
  rcases(hch b hb).1 with z |z
  ·exact hx z
  ·exact absurd (Nat.lt_of_lt_of_le (Heap.lt_size e) z) (Nat.lt_irrefl _)
 have cellK:∀x c,X.env.cells.lookup x=some c->∀v,s.heap.IsCell c v->h'.IsCell c v:=λx c e v ⟨o,ho,hd⟩=>by
  have nch:c∉ch:=λz=>(hch c z).2.2.1 x c e rfl
  by_cases hc:c∈X.fs
  ·obtain⟨sl,q⟩:=slot c o (I.cne x c e) hc nch ho (I.freeC x c e)
   exact⟨_,q,hd⟩
  ·exact⟨o,keep c o (I.cne x c e) hc nch ho (I.freeC x c e),hd⟩
 refine⟨I.ok,I.os,hg,⟨λb o e n hb hx=>?_,λb o e n hb hx=>?_,λb o e n hx=>?_,λb o e hx=>?_,λb xs e=>tups b xs (I.base.tups b xs e),λb o xs e=>frzs b o xs (I.base.frzs b o xs e),λb ps e=>?_⟩,?_,λx c e=>?_,?_,λx c e=>?_,λp hp=>?_,hok,I.len⟩
 ·exact keep b o (neL b o e) hb (neC b o e hx) (I.base.keep b o e n hb hx) (I.base.free b o e n hx)
 ·obtain⟨sl,e1⟩:=I.base.slot b o e n hb hx
  obtain⟨sl',e2⟩:=slot b _ (neL b o e) hb (neC b o e hx) e1 (I.base.free b o e n hx)
  exact⟨sl',e2⟩
 ·obtain⟨o',e1⟩:=I.base.there b o e hx
  exact free b o' (neC b o e hx) e1 (I.base.free b o e n hx)
 ·obtain⟨o',e1⟩:=I.base.there b o e hx
  exact there b o' (neC b o e hx) e1
 ·obtain⟨m1,e1⟩:=I.base.tbls b ps e
  obtain⟨m2,e2⟩:=tbls b _ e1
  exact⟨m1++m2,by rw[e2,Array.append_assoc]⟩
 ·obtain⟨m,hn,hl⟩:=I.loc
  refine⟨m,ns m hn,λi x v e1 e2 e3=>?_⟩
  obtain⟨u,r,l⟩:=hl i x v e1 e2 e3
  refine⟨u,r,?_⟩
  rcases l with l | ⟨k,c,e,z⟩
  ·exact .inl l
  ·exact .inr ⟨k,c,e,cellK x c e _ z⟩
 ·obtain⟨v,z⟩:=I.cell x c e
  exact⟨v,cellK x c e v z⟩
 ·obtain⟨m,⟨o,_,_,ho,_⟩,_⟩:=I.loc
  exact free _ o (λz=>(hch _ z).2.1 rfl) ho I.free
 ·obtain⟨v,o,ho,hd⟩:=I.cell x c e
  exact free c o (λz=>(hch c z).2.2.1 x c e rfl) ho (I.freeC x c e)
 ·obtain⟨e,n,ne,nf,d⟩:=I.pin p hp
  have nch:p.1∉ch:=λz=>(hch p.1 z).2.2.2 p hp rfl
  exact⟨keep p.1 p.2 ne nf nch e n,free p.1 p.2 nch e n,ne,nf,d⟩
theorem Inv.un {t':Nat}(I:Inv X pins σ H s)(u:Un X.fs [] H H' s.heap h')(hok:HOk X.prog X.w H' h'):Inv X pins σ H' {s with heap:=h',toks:=t'}:=by
 obtain⟨m,⟨o,es,ep,ho,r⟩,_⟩:=id I.loc
 obtain⟨sl,hL⟩:=u.any ho I.free (by simp)
 exact I.step (g':=s.gens) (d':=s.drawn) (ch:=[]) (λ_ z=>nomatch z) (λb o _ hb _ e n=>u.keep b o e n hb (by simp)) (λb o _ hb _ e n=>u.slot b o e n hb (by simp)) (λb o _ e n=>u.free b o e n (by simp)) (λb o _ e=>u.there b o e (by simp)) u.tups u.frzs u.tbls (λm' hm=>by
  obtain⟨o',es',ep',ho',r'⟩:=hm
  rw[ho] at ho';cases ho'
  exact⟨_,es',ep',hL,r'⟩) hok I.bare
theorem Inv.call {g':Array GenState}{t':Nat}{d':Drawn}{ch:List Addr}(I:Inv X pins σ H s)(u:Un (frs X.stack) ch H H' s.heap h')(hok:HOk X.prog X.w H' h')(hg:AllBare g')
  (hch:∀b∈ch,(b∈X.ex∨X.s₀.heap.objs.size<=b)/\b≠X.env.locals/\(∀x c,X.env.cells.lookup x=some c->c≠b)/\∀p∈X.pn++pins,p.1≠b):
  Inv X pins σ H' {s with heap:=h',gens:=g',drawn:=d',toks:=t'}:=by
 obtain⟨m,⟨o,es,ep,ho,r⟩,_⟩:=id I.loc
 obtain⟨sl,hL⟩:=u.any ho I.free λz=>(hch _ z).2.1 rfl
 exact I.step (ch:=ch) hch (λb o hL hb hc e n=>u.keep b o e n (λz=>(List.mem_cons.mp (I.stkSub b z)).elim hL hb) hc) (λb o _ _ hc e n=>u.any e n hc) (λb o hc e n=>u.free b o e n hc) (λb o hc e=>u.there b o e hc) u.tups u.frzs u.tbls (λm' hm=>by
  obtain⟨o',es',ep',ho',r'⟩:=hm
  rw[ho] at ho';cases ho'
  exact⟨_,es',ep',hL,r'⟩) hok hg
theorem Inv.turned {t':Nat}{it:Addr}(I:Inv X pins σ H s)(k:∀b o,b≠it->s.heap.get? b=some o->h'.get? b=some o)(hn:H it=none)(hL:it≠X.env.locals)
  (h1:it∈X.ex∨X.s₀.heap.objs.size<=it)(h2:∀x c,X.env.cells.lookup x=some c->c≠it)(h3:∀p∈X.pn++pins,p.1≠it):Inv X pins σ H {s with heap:=h',toks:=t'}:=by
 have nit:∀b u,H b=some u->b≠it:=λb u e z=>by rw[z,hn] at e;cases e
 refine I.step (g':=s.gens) (d':=s.drawn) (ch:=[it]) (λb hb=>?_) (λb o _ _ hc e _=>k b o (λz=>hc (by simp[z])) e) (λb o _ _ hc e _=>⟨o.slots,k b o (λz=>hc (by simp[z])) e⟩) (λ_ _ _ _ n=>n)
  (λb o hc e=>⟨o,k b o (λz=>hc (by simp[z])) e⟩) (λ_ _ e=>e) (λ_ _ _ e=>e) (λb ps e=>⟨#[],by rw[e];simp⟩) (λm hm=>?_) (λb u e=>?_) I.bare
 ·have e:b=it:=by simpa using hb
  subst e
  exact⟨h1,hL,h2,h3⟩
 ·obtain⟨o,es,ep,ho,r⟩:=hm
  exact⟨o,es,ep,k _ o (Ne.symm hL) ho,r⟩
 ·refine(I.hok b u e).stay (λc v hc q=>k c v ?_ q) (λ_ q=>q) λ_ _ q=>q
  rcases hc with z |z
  ·rw[z];exact nit b u e
  ·exact nit c _ z
theorem Inv.tok (I:Inv X pins σ H s)(t:Nat):Inv X pins σ H {s with toks:=t}:=I.un (h':=s.heap) (t':=t) Un.refl I.hok
theorem Inv.kept {t':Nat}(I:Inv X pins σ H s)(k:∀b u,s.heap.get? b=some u->h'.get? b=some u):Inv X pins σ H {s with heap:=h',toks:=t'}:=I.un (Un.kept k) (I.hok.kept k)
theorem Inv.laid {a:Addr}{o:HO}{t':Nat}(I:Inv X pins σ H s)(k:∀b u,s.heap.get? b=some u->h'.get? b=some u)(hp:s.heap.objs.size<=a)(new:YB X.prog X.w (upd H a o) h' a o):
  Inv X pins σ (upd H a o) {s with heap:=h',toks:=t'}:=I.un (Un.laid k hp (I.hok.fresh hp)) (I.hok.laid k hp new)
theorem Inv.write {x e:Addr}{o:HO}{t':Nat}(I:Inv X pins σ H s)(mu:Mut (H x))(he:e=x∨H e=some (.own x))(k:∀b u,b≠e->s.heap.get? b=some u->h'.get? b=some u)(heo:∃u,h'.get? e=some u)
  (new:YB X.prog X.w (upd H x o) h' x o):Inv X pins σ (upd H x o) {s with heap:=h',toks:=t'}:=I.un (Un.write mu he k heo) (I.hok.write mu he k heo new)
theorem Inv.weak {σ':List (Option V)}(I:Inv X pins σ H s)(hl:σ'.length=σ.length)(w:∀(i:Nat) v,σ'[i]?=some (some v)->σ[i]?=some (some v)):Inv X pins σ' H s:=
 ⟨I.ok,I.os,I.bare,I.base,let ⟨m,hn,hl'⟩:=I.loc;⟨m,hn,λi x v e1 e2 e3=>hl' i x v e1 (w i v e2) e3⟩,I.cell,I.free,I.freeC,I.pin,I.hok,hl.trans I.len⟩
theorem Inv.pins_of {pins':List (Addr×Obj)}(I:Inv X pins σ H s)(h:∀p∈pins',s.heap.get? p.1=some p.2/\H p.1=none/\p.1≠X.env.locals/\p.1∉X.fs/\∀v,p.2.data≠ .cell v):Inv X pins' σ H s:=
 ⟨I.ok,I.os,I.bare,I.base,I.loc,I.cell,I.free,I.freeC,λp hp=>(List.mem_append.mp hp).elim (λz=>I.pin p (List.mem_append_left _ z)) (h p),I.hok,I.len⟩
theorem K2 {N:List Str}(hN:N.Nodup){i j:Nat}{x:Str}(a:N[i]?=some x)(b:N[j]?=some x):i=j:=by
 obtain⟨h1,e1⟩:=List.getElem?_eq_some_iff.mp a
 obtain⟨h2,e2⟩:=List.getElem?_eq_some_iff.mp b
 exact(List.getElem_inj hN).mp (e1.trans e2.symm)
theorem UJ {M:Model}{A:Around}{E:Value->Shared->Prop}{i:Nat}{x:Str}{v:V}{u:Value}{Q:Unit->Shared->Prop}(I:Inv X pins σ H s)(hN:X.N.Nodup)(hi:X.N[i]?=some x)(hx:Loc X.env.scope x)(r:X8 v u)
  (h:∀s',Inv X pins (σ.set i (some v)) H s'->(∃a,Heap.SameBut a s.heap s'.heap/\(a=X.env.locals∨X.env.cells.lookup x=some a))->Q () s')(hf:X.fn x=true∨X.env.scope.names.lookup x=some .local:=by first |exact .inl rfl |exact .inr rfl |assumption):wpAny M A (storeName X.env x u) Q E s:=by
 obtain⟨m,hn,hl⟩:=id I.loc
 have hcls:(X.env.scope.kind== .class || (X.env.scope.kind== .module&&X.env.locals !=X.env.globals))=false:=by rw[I.ok.kind];rfl
 have hiσ:i<σ.length:=by rw[I.len];exact(List.getElem?_eq_some_iff.mp hi).1
 have cne:=I.cne
 have tracked:∀{a:Addr}{h':Heap},(∃o,s.heap.get? a=some o/\H a=none)->Heap.SameBut a s.heap h'->HOk X.prog X.w H h':=fun {a h'} ha hs b ob e=>by
  obtain⟨_,_,hfree⟩:=ha
  refine(I.hok b ob e).stay (λc w' hc q=>(hs.2 c ?_).trans q) (λ_ q=>q) λ_ _ q=>q
  rintro rfl
  rcases hc with rfl |hc
  ·rw[hfree] at e;cases e
  ·rw[hfree] at hc;cases hc
 rcases hx with hk |hk
 ·refine wpAny_storeName_local hk hn (λh' hn' hs=>?_) hcls
  obtain⟨oL,_,_,hoL,_⟩:=id hn
  refine h _ ⟨I.ok,I.os,I.bare,⟨λb o e n hb hx=>?_,λb o e n hb hx=>?_,I.base.free,λb o e hx=>?_,I.base.tups,I.base.frzs,I.base.tbls⟩,⟨_,hn',λj y v' e1 e2 e3=>?_⟩,λy c e=>?_,I.free,I.freeC,λp hp=>?_,tracked ⟨oL,hoL,I.free⟩ hs,by simpa using I.len⟩ ⟨_,hs, .inl rfl⟩
  ·exact(hs.2 b (Nat.ne_of_lt (Nat.lt_of_lt_of_le (Heap.lt_size e) I.ok.above))).trans (I.base.keep b o e n hb hx)
  ·obtain⟨sl,e1⟩:=I.base.slot b o e n hb hx
   exact⟨sl,(hs.2 b (Nat.ne_of_lt (Nat.lt_of_lt_of_le (Heap.lt_size e) I.ok.above))).trans e1⟩
  ·obtain⟨o',e1⟩:=I.base.there b o e hx
   exact⟨o',(hs.2 b (Nat.ne_of_lt (Nat.lt_of_lt_of_le (Heap.lt_size e) I.ok.above))).trans e1⟩
  ·by_cases hj:j=i
   ·subst hj
    rw[hi] at e1;cases e1
    rw[List.getElem?_set_self hiσ] at e2
    cases e2
    exact⟨u,r, .inl ⟨hk,by simp⟩⟩
   ·rw[List.getElem?_set_ne (Ne.symm hj)] at e2
    obtain⟨u',r',q⟩:=hl j y v' e1 e2 e3
    refine⟨u',r',?_⟩
    rcases q with⟨k,e⟩ | ⟨k,c,e,z⟩
    ·refine .inl ⟨k,?_⟩
     have:y≠x:=λe=>hj (K2 hN e1 (e▸hi))
     simp[this,e]
    ·exact .inr ⟨k,c,e,z.sameBut hs (cne y c e)⟩
  ·obtain⟨w',z⟩:=I.cell y c e
   exact⟨w',z.sameBut hs (cne y c e)⟩
  ·obtain⟨e,n,ne,nf,d⟩:=I.pin p hp
   exact⟨(hs.2 p.1 ne).trans e,n,ne,nf,d⟩
 ·have hfn:X.fn x=true:=by
   rcases hf with z |z
   ·exact z
   ·rw[z] at hk;cases hk
  obtain⟨c,hc⟩:=I.ok.has x (.inl hk)
  obtain⟨w',z⟩:=I.cell x c hc
  refine wpAny_storeName_cell I.ok.kind hk hc z (λh' hc' hs=>?_)
  obtain⟨oc,hoc,hocd⟩:=id z
  refine h {s with heap:=h'} ⟨I.ok,I.os,I.bare,⟨λb o e n hb hx=>?_,λb o e n hb hx=>?_,I.base.free,λb o e hx=>?_,I.base.tups,I.base.frzs,I.base.tbls⟩,⟨m,hn.sameBut hs (Ne.symm (cne x c hc)),λj y v' e1 e2 e3=>?_⟩,λy c' e=>?_,I.free,I.freeC,λp hp=>?_,tracked ⟨oc,hoc,I.freeC x c hc⟩ hs,by simpa using I.len⟩ ⟨c,hs, .inr hc⟩
  ·exact(hs.2 b (Nat.ne_of_lt (Nat.lt_of_lt_of_le (Heap.lt_size e) (I.ok.cab x c hfn hc)))).trans (I.base.keep b o e n hb hx)
  ·obtain⟨sl,e1⟩:=I.base.slot b o e n hb hx
   exact⟨sl,(hs.2 b (Nat.ne_of_lt (Nat.lt_of_lt_of_le (Heap.lt_size e) (I.ok.cab x c hfn hc)))).trans e1⟩
  ·obtain⟨o',e1⟩:=I.base.there b o e hx
   exact⟨o',(hs.2 b (Nat.ne_of_lt (Nat.lt_of_lt_of_le (Heap.lt_size e) (I.ok.cab x c hfn hc)))).trans e1⟩
  ·by_cases hj:j=i
   ·subst hj
    rw[hi] at e1;cases e1
    rw[List.getElem?_set_self hiσ] at e2
    cases e2
    exact⟨u,r, .inr ⟨.inl hk,c,hc,hc'⟩⟩
   ·rw[List.getElem?_set_ne (Ne.symm hj)] at e2
    obtain⟨u',r',q⟩:=hl j y v' e1 e2 e3
    refine⟨u',r',?_⟩
    rcases q with q | ⟨k,c',e,z'⟩
    ·exact .inl q
    ·refine .inr ⟨k,c',e,z'.sameBut hs ?_⟩
     rintro rfl
     exact hj (K2 hN e1 (I.ok.inj _ _ _ e hc▸hi))
  ·by_cases hcc:c'=c
   ·subst hcc;exact⟨_,hc'⟩
   ·obtain⟨w2,z2⟩:=I.cell y c' e
    exact⟨w2,z2.sameBut hs hcc⟩
  ·obtain⟨e,n,ne,nf,d⟩:=I.pin p hp
   refine⟨(hs.2 p.1 ?_).trans e,n,ne,nf,d⟩
   intro q
   rw[q,hoc] at e
   have q':oc=p.2:=Option.some.inj e
   exact d w' (by rw[←q'];exact hocd)
theorem UA {M:Model}{A:Around}{E:Value->Shared->Prop}{i:Nat}{x:Str}{v:V}{u:Value}{Q:Unit->Shared->Prop}(I:Inv X pins σ H s)(hN:X.N.Nodup)(hi:X.N[i]?=some x)(hx:Loc X.env.scope x)(r:X8 v u)
  (h:∀s',Inv X pins (σ.set i (some v)) H s'->Q () s')(hf:X.fn x=true∨X.env.scope.names.lookup x=some .local:=by first |exact .inl rfl |exact .inr rfl |assumption):wpAny M A (storeName X.env x u) Q E s:=
 UJ I hN hi hx r (λs' I' _=>h s' I') hf
theorem Inv.call' {s':Shared}{ch:List Addr}(I:Inv X pins σ H s)(ho:s'.os=s.os)(u:Un (frs X.stack) ch H H' s.heap s'.heap)(hok:HOk X.prog X.w H' s'.heap)(hg:AllBare s'.gens)
  (hch:∀b∈ch,(b∈X.ex∨X.s₀.heap.objs.size<=b)/\b≠X.env.locals/\(∀x c,X.env.cells.lookup x=some c->c≠b)/\∀p∈X.pn++pins,p.1≠b):Inv X pins σ H' s':=by
 obtain⟨h',g',d',t',o'⟩:=s'
 have e:o'=s.os:=ho
 subst e
 exact I.call (g':=g') (t':=t') (d':=d') u hok hg hch
end
noncomputable abbrev XK:=Value->Option Addr->Hp->Prop
noncomputable abbrev St:=List (Option V)
noncomputable abbrev VK:=V->Hp->Prop
noncomputable abbrev TE:=St->Hp->VK->Prop
noncomputable abbrev TT:=St->Hp->(Bool->Hp->Prop)->Prop
noncomputable abbrev TA:=St->Hp->(List V->Hp->Prop)->Prop
structure Ends where
 nx:St->Hp->Prop
 rt:VK
 bk:St->Hp->Prop:=λ_ _=>False
 ct:St->Hp->Prop:=λ_ _=>False
noncomputable abbrev TS:=Ends->St->Hp->Prop
noncomputable def EP (X:Cx)(pins:List (Addr×Obj))(σ:St)(Q:VK)(u:Value)(s':Shared):Prop:=∃ v H',Inv X pins σ H' s'/\X8 v u/\Q v H'
noncomputable def TP (X:Cx)(pins:List (Addr×Obj))(σ:St)(Q:Bool->Hp->Prop)(b:Bool)(s':Shared):Prop:=∃ H',Inv X pins σ H' s'/\Q b H'
noncomputable def AP (X:Cx)(pins:List (Addr×Obj))(σ:St)(Q:List V->Hp->Prop)(us:List Value)(s':Shared):Prop:=∃ vs H',Inv X pins σ H' s'/\Yg vs us/\Q vs H'
noncomputable def SP (X:Cx)(pins:List (Addr×Obj))(D:Ends)(f:Flow)(s':Shared):Prop:=
 match f with
 | .next=>∃ σ' H',Inv X pins σ' H' s'/\D.nx σ' H'
 | .brk=>∃ σ' H',Inv X pins σ' H' s'/\D.bk σ' H'
 | .cont=>∃ σ' H',Inv X pins σ' H' s'/\D.ct σ' H'
 | .ret u=>∃ v σ' H',Inv X pins σ' H' s'/\X8 v u/\D.rt v H'
noncomputable def PE (X:Cx)(e:Expr)(t:TE):Prop:=
 ∀(pins:List (Addr×Obj)) (s:Shared) (σ:St) (H:Hp) (Q:VK),Inv X pins σ H s->t σ H Q->wpAny (model X.prog X.w) X.A (eval e X.env) (EP X pins σ Q) X.xe s
noncomputable def PT (X:Cx)(e:Expr)(t:TT):Prop:=
 ∀(pins:List (Addr×Obj)) (s:Shared) (σ:St) (H:Hp) (Q:Bool->Hp->Prop),Inv X pins σ H s->t σ H Q->wpAny (model X.prog X.w) X.A (isTrue e X.env (eval e X.env)) (TP X pins σ Q) X.xe s
noncomputable def PW (X:Cx)(e:Expr)(t:TT):Prop:=
 ∀(whole:Sem Value) (pins:List (Addr×Obj)) (s:Shared) (σ:St) (H:Hp) (Q:Bool->Hp->Prop),Inv X pins σ H s->t σ H Q->wpAny (model X.prog X.w) X.A (isTrue e X.env whole) (TP X pins σ Q) X.xe s
theorem PW.pt {X:Cx}{e:Expr}{t:TT}(h:PW X e t):PT X e t:=h _
noncomputable def PA (X:Cx)(es:List Expr)(t:TA):Prop:=
 ∀(pos:Pos) (pins:List (Addr×Obj)) (s:Shared) (σ:St) (H:Hp) (Q:List V->Hp->Prop),Inv X pins σ H s->t σ H Q->wpAny (model X.prog X.w) X.A (spliced (backTo pos (starEach es X.env))) (AP X pins σ Q) X.xe s
noncomputable def PS (X:Cx)(st:Stmt)(t:TS):Prop:=
 ∀(pins:List (Addr×Obj)) (s:Shared) (σ:St) (H:Hp) (D:Ends),Inv X pins σ H s->t D σ H->wpAny (model X.prog X.w) X.A (exec st X.env) (SP X pins D) X.xe s
noncomputable def PSs (X:Cx)(st:List Stmt)(t:TS):Prop:=
 ∀(pins:List (Addr×Obj)) (s:Shared) (σ:St) (H:Hp) (D:Ends),Inv X pins σ H s->t D σ H->wpAny (model X.prog X.w) X.A (execs st X.env) (SP X pins D) X.xe s
theorem thn {α:Type}{t:Sem α}{Q Q':α->Shared->Prop}{M:Model}{A:Around}{E:Value->Shared->Prop}{s:Shared}(h:wpAny M A t Q E s)(hQ:∀a s,Q a s->Q' a s):wpAny M A t Q' E s:=wpAny_mono h hQ λ_ _ x=>x
section
variable {X:Cx}
noncomputable def QD (i:Nat):TE:=λσ H Q=>∃ v,σ[i]?=some (some v)/\Q v H
noncomputable def tC (v:V):TE:=λ_ H Q=>Q v H
theorem HP {i:Nat}{x:Str}{pos:Pos}(hN:X.N[i]?=some x)(hv:Vis X.env.scope x)(hd:(x==("__debug__":Str))=false:=by decide)(hcd:(x==("__classdict__":Str))=false:=by decide):PE X (.Name x pos) (QD i):=by
 intro pins s σ H Q I h
 obtain⟨v,e,h⟩:=h
 obtain⟨m,hn,hl⟩:=I.loc
 obtain⟨u,r,l⟩:=hl i x v hN e hv
 have fin:EP X pins σ Q u s:=⟨v,H,I,r,h⟩
 rcases l with⟨hk,hm⟩ | ⟨hk,c,hc,hcell⟩
 ·exact wpAny_Name (wpAny_loadName_local I.ok.kind hk hn hm fin) hd
 ·rcases hk with hk |hk
  ·exact wpAny_Name (wpAny_loadName_cell I.ok.kind hk hc hcell fin) hd
  ·exact wpAny_Name (wpAny_loadName_free I.ok.kind hk hc hcell fin hcd) hd
theorem Xg {i j pos}:PE X (.Constant (.int i) j pos) (tC (.int i)):=λ_ _ _ H _ I h=>wpAny_Constant_int ⟨.int i,H,I.tok _,⟨_,rfl⟩,h⟩
theorem Zs {b j pos}:PE X (.Constant (.bool b) j pos) (tC (.bl b)):=λ_ _ _ H _ I h=>Constant_bool ⟨.bl b,H,I,rfl,h⟩
theorem ZN {j pos}:PE X (.Constant .none j pos) (tC .non):=λ_ _ _ H _ I h=>Constant_none ⟨.non,H,I,rfl,h⟩
theorem Qo {x j pos}:PE X (.Constant (.str x) j pos) (tC (.str x)):=λ_ _ _ H _ I h=>Calls.Constant_str ⟨.str x,H,I.tok _,⟨_,rfl⟩,h⟩
noncomputable def Gl (X:Cx)(x:Str):Prop:=X.env.kindOf x=some .globalImplicit
theorem JZ {E:Value->Shared->Prop}{pins:List (Addr×Obj)}{s:Shared}{σ:St}{H:Hp}{x:Str}{u:Value}{pos:Pos}{Q:Value->Shared->Prop}(I:Inv X pins σ H s)(hg:Gl X x)(hm:X.mg x=some u)(h:Q u s)
  (hd:(x==("__debug__":Str))=false:=by decide):wpAny (model X.prog X.w) X.A (eval (.Name x pos) X.env) Q E s:=
 Calls.Name_function_global I.ok.kind hg (Calls.loadGlobal_global (by rw[I.ok.glob];exact I.mod.glob.keeps I.bk) hm h) hd
theorem UP {E:Value->Shared->Prop}{pins:List (Addr×Obj)}{s:Shared}{σ:St}{H:Hp}{x:Str}{u:Value}{pos:Pos}{Q:Value->Shared->Prop}(I:Inv X pins σ H s)(hg:Gl X x)(hm:X.mg x=none)(hv:bootBuiltins x=some u)(h:Q u s)
  (hn:x≠ "__name__":=by decide)(hd:(x==("__debug__":Str))=false:=by decide):wpAny (model X.prog X.w) X.A (eval (.Name x pos) X.env) Q E s:=by
 obtain⟨mb,h1,h2⟩:=I.mod.blt
 exact Calls.Name_function_global I.ok.kind hg (Calls.loadGlobal_builtin (by rw[I.ok.glob];exact I.mod.glob.keeps I.bk) hm (by rw[I.ok.blt];exact h1.keeps I.bk) ((h2 x hn).trans hv) h) hd
theorem Uf {x:Str}{v:V}{u:Value}{pos:Pos}(hg:Gl X x)(hm:X.mg x=some u)(r:X8 v u)(hd:(x==("__debug__":Str))=false:=by decide):PE X (.Name x pos) (tC v):=
 λ_ _ _ H _ I h=>JZ I hg hm ⟨v,H,I,r,h⟩ hd
theorem ZF {x:Str}{v:V}{u:Value}{pos:Pos}(hg:Gl X x)(hm:X.mg x=none)(hv:bootBuiltins x=some u)(r:X8 v u)(hn:x≠ "__name__":=by decide)(hd:(x==("__debug__":Str))=false:=by decide):PE X (.Name x pos) (tC v):=
 λ_ _ _ H _ I h=>UP I hg hm hv ⟨v,H,I,r,h⟩ hn hd
variable {a b:Expr}{ta tb:TE}{pos:Pos}
noncomputable def PC (X:Cx)(op:CmpOp)(a b:Expr)(t:TE):Prop:=
 ∀(pins:List (Addr×Obj)) (s:Shared) (σ:St) (H:Hp) (Q:VK),Inv X pins σ H s->t σ H Q->
  wpAny (model X.prog X.w) X.A (eval a X.env) (λv s₁=>wpAny (model X.prog X.w) X.A (eval b X.env) (λu s₂=>wpAny (model X.prog X.w) X.A (compareOp op v u) (EP X pins σ Q) X.xe s₂) X.xe s₁) X.xe s
theorem Gp (b:Expr){op:CmpOp}(h:op≠ .In)(h2:op≠ .NotIn):behindInMarks op b=false:=by
 have e1:(op==CmpOp.In)=false:=by cases op<;> first |rfl |exact absurd rfl h
 have e2:(op==CmpOp.NotIn)=false:=by cases op<;> first |rfl |exact absurd rfl h2
 cases b<;> simp[behindInMarks,e1,e2]
noncomputable def tB (t:TE):TT:=λσ H Q=>t σ H λx H1=>∃ c,x= .bl c/\Q c H1
theorem BK {op:CmpOp}{t:TE}(h:PC X op a b t)(h1:behindInMarks op b=false:=by first |exact Gp _ (by decide) (by decide) |rfl):PE X (.Compare a [op] [b] pos) t:=λpins s σ H Q I hw=>wpAny_Compare1 (h pins s σ H Q I hw) h1
theorem Bq {op:CmpOp}{t:TE}(h:PC X op a b t)(h1:behindInMarks op b=false:=by first |exact Gp _ (by decide) (by decide) |rfl):PT X (.Compare a [op] [b] pos) (tB t):=by
 intro pins s σ H Q I hw
 refine wpAny_isTrue_Compare1 (thn (h pins s σ H _ I hw) λv s1 h1=>thn h1 λu s2 h2=>thn h2 λc s3 r9=>?_) h1
 obtain⟨x,H1,I1,r1,q1⟩:=r9
 obtain⟨d,rfl,q⟩:=q1
 cases r1
 exact wpAny_truthy_bool ⟨H1,I1,q⟩
theorem YR {e:Expr}{t:TE}(h:PE X e t)(he:∀whole,isTrue e X.env whole=(do let v ←whole;standAt e.pos;holding [v] (truthy v)):=by intro _;rfl):PT X e (tB t):=by
 intro pins s σ H Q I hw
 refine isTrue_plain (thn (h pins s σ H _ I hw) λv s1 r9=>?_) (he _)
 obtain⟨x,H1,I1,r1,q1⟩:=r9
 obtain⟨d,rfl,q⟩:=q1
 cases r1
 exact wpAny_truthy_bool ⟨H1,I1,q⟩
variable {tA tB':TT}{Y1:List Expr}
noncomputable def LD (t u:TT):TT:=λσ H Q=>t σ H λc H1=>if c=true then u σ H1 Q else Q false H1
noncomputable def tOr (t u:TT):TT:=λσ H Q=>t σ H λc H1=>if c=true then Q true H1 else u σ H1 Q
noncomputable def LN (t:TT):TT:=λσ H Q=>t σ H λc H1=>Q (!c) H1
theorem Db (ha:PT X a tA):PW X (.BoolOp .And [a] pos) tA:=by
 intro wh pins s σ H Q I h
 refine isTrue_and (thn (ha pins s σ H Q I h) λc s1 e=>?_)
 cases c with
 |true=>exact isTrue_and_nil e
 |false=>exact e
theorem Zv (ha:PT X a tA):PW X (.BoolOp .Or [a] pos) tA:=by
 intro wh pins s σ H Q I h
 refine isTrue_or (thn (ha pins s σ H Q I h) λc s1 e=>?_)
 cases c with
 |false=>exact isTrue_or_nil e
 |true=>exact e
theorem Bp (ha:PT X a tA)(hb:PW X (.BoolOp .And (b::Y1) pos) tB'):PW X (.BoolOp .And (a::b::Y1) pos) (LD tA tB'):=by
 intro wh pins s σ H Q I h
 refine isTrue_and (thn (ha pins s σ H _ I h) λc s1 r9=>?_)
 obtain⟨H1,I1,q1⟩:=r9
 cases c with
 |true=>exact hb wh pins s1 σ H1 Q I1 q1
 |false=>exact⟨H1,I1,q1⟩
theorem ZP (ha:PT X a tA)(hb:PW X (.BoolOp .Or (b::Y1) pos) tB'):PW X (.BoolOp .Or (a::b::Y1) pos) (tOr tA tB'):=by
 intro wh pins s σ H Q I h
 refine isTrue_or (thn (ha pins s σ H _ I h) λc s1 r9=>?_)
 obtain⟨H1,I1,q1⟩:=r9
 cases c with
 |true=>exact⟨H1,I1,q1⟩
 |false=>exact hb wh pins s1 σ H1 Q I1 q1
theorem Zi (ha:PT X a tA):PT X (.UnaryOp .Not a pos) (LN tA):=by
 intro pins s σ H Q I h
 exact isTrue_not (ha pins s σ H (λc H1=>Q (!c) H1) I h)
noncomputable def IG (ta tb:TE):TE:=λσ H Q=>ta σ H λx H1=>∃ c,x= .bl c/\if c=true then tb σ H1 Q else Q (.bl false) H1
noncomputable def LH (ta tb:TE):TE:=λσ H Q=>ta σ H λx H1=>∃ c,x= .bl c/\if c=true then Q (.bl true) H1 else tb σ H1 Q
noncomputable def HA (ta:TE):TE:=λσ H Q=>ta σ H λx H1=>∃ c,x= .bl c/\Q (.bl (!c)) H1
theorem VB {op}{t:TE}(h:PE X a t):PE X (.BoolOp op [a] pos) t:=λpins s σ H Q I hw=>BoolOp_one (h pins s σ H Q I hw)
theorem K6 (ha:PE X a ta)(hb:PE X (.BoolOp .And (b::Y1) pos) tb):PE X (.BoolOp .And (a::b::Y1) pos) (IG ta tb):=by
 intro pins s σ H Q I h
 refine BoolOp_and (thn (ha pins s σ H _ I h) λv s1 r9=>?_)
 obtain⟨x,H1,I1,r1,q1⟩:=r9
 obtain⟨c,rfl,q1⟩:=q1
 cases r1
 refine wpAny_truthy_bool ?_
 cases c with
 |true=>exact hb pins s1 σ H1 Q I1 q1
 |false=>exact⟨.bl false,H1,I1,rfl,q1⟩
theorem Hi (ha:PE X a ta)(hb:PE X (.BoolOp .Or (b::Y1) pos) tb):PE X (.BoolOp .Or (a::b::Y1) pos) (LH ta tb):=by
 intro pins s σ H Q I h
 refine BoolOp_or (thn (ha pins s σ H _ I h) λv s1 r9=>?_)
 obtain⟨x,H1,I1,r1,q1⟩:=r9
 obtain⟨c,rfl,q1⟩:=q1
 cases r1
 refine wpAny_truthy_bool ?_
 cases c with
 |false=>exact hb pins s1 σ H1 Q I1 q1
 |true=>exact⟨.bl true,H1,I1,rfl,q1⟩
theorem HL (ha:PE X a ta):PE X (.UnaryOp .Not a pos) (HA ta):=by
 intro pins s σ H Q I h
 refine UnaryOp_ (thn (ha pins s σ H _ I h) λv s1 r9=>?_)
 obtain⟨x,H1,I1,r1,q1⟩:=r9
 obtain⟨c,rfl,q1⟩:=q1
 cases r1
 exact not_of (wpAny_truthy_bool ⟨.bl (!c),H1,I1,rfl,q1⟩)
end
noncomputable def SqL (K:PySem.W.Frag)(H:Hp)(a:Addr)(xs:List V):Prop:=
 Rd H a (.lst xs)∨
  ∃(o:Obj) (its:Array Value) (n:Nat),K.lookup a=some o/\o.cls= .type "list" /\o.dict=none/\o.data= .seq its n/\its.size<=sizeLine/\Yg xs its.toList
noncomputable def SqT (K:PySem.W.Frag)(H:Hp)(a:Addr)(xs:List V):Prop:=
 Rd H a (.tup xs)∨
  ∃(o:Obj) (its:Array Value) (n:Nat),K.lookup a=some o/\o.cls= .type "tuple" /\o.data= .seq its n/\its.size<=sizeLine/\Yg xs its.toList
noncomputable def LX:Value->Option V
 | .none=>some .non
 | .bool b=>some (.bl b)
 | .int i _=>some (.int i)
 | .str x _=>some (.str x)
 | .bytes b _=>some (.byt b)
 | .float b _=>some (.flt b)
 | .ref a=>some (.ref a)
 | .type n=>some (.ty n)
 |_=>none
theorem X8.abs {x:V}{u:Value}(r:X8 x u):LX u=some x:=by
 cases x with
 |non=>cases r;rfl
 |bl _=>cases r;rfl
 |int _=>obtain⟨t,rfl⟩:=r;rfl
 |str _=>obtain⟨t,rfl⟩:=r;rfl
 |byt _=>obtain⟨t,rfl⟩:=r;rfl
 |flt _=>obtain⟨t,rfl⟩:=r;rfl
 |ref _=>cases r;rfl
 |ty _=>cases r;rfl
theorem X8.inj {x y:V}{u:Value}(r:X8 x u)(q:X8 y u):x=y:=Option.some.inj (r.abs.symm.trans q.abs)
theorem Yg.inj:∀{xs ys:List V}{us:List Value},Yg xs us->Yg ys us->xs=ys:=fun {xs ys us} p=>by
 induction p generalizing ys with
 |nil=>intro q;cases q;rfl
 |cons r _ ih=>intro q;cases q with |cons r' t'=>rw[r.inj r',ih t']
section
variable {X:Cx}{pins:List (Addr×Obj)}{σ:St}{H:Hp}{s:Shared}{a:Addr}{xs ys:List V}
theorem SqL.of {K:PySem.W.Frag}(h:H a=some (.lst xs)):SqL K H a xs:=.inl (.inl h)
theorem SqT.of {K:PySem.W.Frag}(h:H a=some (.tup xs)):SqT K H a xs:=.inl (.inl h)
theorem Inv.list (I:Inv X pins σ H s)(h:SqL X.K H a xs):∃its:List Value,Yg xs its/\PlainL s.heap a its.toArray/\xs.length<=sizeLine:=by
 rcases h with h | ⟨o,its,n,hk,hc,hd,hs,hz,r⟩
 ·obtain⟨z,its,n,r,e⟩:=h.ok I.hok
  exact⟨its,r,⟨_,n,e,rfl,rfl,rfl⟩,z⟩
 ·refine⟨its.toList,r,⟨o,n,I.kIn a o hk,hc,hd,by simpa using hs⟩,?_⟩
  have e:=r.length
  simp only[Array.length_toList] at e
  (first|lia|omega)
theorem Inv.tuple (I:Inv X pins σ H s)(h:SqT X.K H a xs):∃its:List Value,Yg xs its/\IsTup s.heap a its.toArray/\xs.length<=sizeLine:=by
 rcases h with h | ⟨o,its,n,hk,hc,hs,hz,r⟩
 ·obtain⟨z,its,r,p⟩:=h.ok I.hok
  exact⟨its,r,p.t,z⟩
 ·refine⟨its.toList,r,⟨o,I.kIn a o hk,hc,n,by simpa using hs⟩,?_⟩
  have e:=r.length
  simp only[Array.length_toList] at e
  (first|lia|omega)
theorem Inv.list_inj (I:Inv X pins σ H s)(h:SqL X.K H a xs)(h':SqL X.K H a ys):xs=ys:=by
 obtain⟨its,r,⟨o,n,e,_,_,d⟩,_⟩:=I.list h
 obtain⟨its',r',⟨o',n',e',_,_,d'⟩,_⟩:=I.list h'
 rw[e] at e';cases e'
 rw[d] at d'
 injection d' with d1 _
 have:its=its':=by simpa using congrArg Array.toList d1
 subst this
 exact r.inj r'
theorem Inv.tuple_inj (I:Inv X pins σ H s)(h:SqT X.K H a xs)(h':SqT X.K H a ys):xs=ys:=by
 obtain⟨its,r,⟨o,e,_,n,d⟩,_⟩:=I.tuple h
 obtain⟨its',r',⟨o',e',_,n',d'⟩,_⟩:=I.tuple h'
 rw[e] at e';cases e'
 rw[d] at d'
 injection d' with d1 _
 have:its=its':=by simpa using congrArg Array.toList d1
 subst this
 exact r.inj r'
end
noncomputable abbrev Cx.wish (X:Cx)(E:Value->Shared->Prop):Cx:={X with xe:=E}
noncomputable abbrev Cx.nox (X:Cx):Cx:=X.wish λ_ _=>False
theorem Cx.Ok.wish {X:Cx}(ok:X.Ok)(E:Value->Shared->Prop):(X.wish E).Ok:=
 ⟨ok.mod,ok.kind,ok.glob,ok.blt,ok.above,ok.inj,ok.has,ok.cab,ok.hd,ok.frames,ok.stk,ok.exf,ok.bs,ok.bsz,ok.noex,ok.exfs,ok.funs,ok.frf⟩
theorem Cx.Ok.unwish {X:Cx}{E:Value->Shared->Prop}(ok:(X.wish E).Ok):X.Ok:=
 ⟨ok.mod,ok.kind,ok.glob,ok.blt,ok.above,ok.inj,ok.has,ok.cab,ok.hd,ok.frames,ok.stk,ok.exf,ok.bs,ok.bsz,ok.noex,ok.exfs,ok.funs,ok.frf⟩
section
variable {X:Cx}{pins:List (Addr×Obj)}{σ:St}{H:Hp}{s:Shared}{E:Value->Shared->Prop}
theorem Inv.wish (I:Inv X pins σ H s)(E:Value->Shared->Prop):Inv (X.wish E) pins σ H s:=⟨I.ok.wish E,I.os,I.bare,I.base,I.loc,I.cell,I.free,I.freeC,I.pin,I.hok,I.len⟩
theorem Inv.unwish (I:Inv (X.wish E) pins σ H s):Inv X pins σ H s:=⟨I.ok.unwish,I.os,I.bare,I.base,I.loc,I.cell,I.free,I.freeC,I.pin,I.hok,I.len⟩
theorem SP.unwish {D:Ends}{f:Flow}{s':Shared}(h:SP (X.wish E) pins D f s'):SP X pins D f s':=by
 cases f with
 |next=>obtain⟨σ',H',I,q⟩:=h;exact⟨σ',H',I.unwish,q⟩
 |brk=>obtain⟨σ',H',I,q⟩:=h;exact⟨σ',H',I.unwish,q⟩
 |cont=>obtain⟨σ',H',I,q⟩:=h;exact⟨σ',H',I.unwish,q⟩
 |ret u=>obtain⟨v,σ',H',I,r,q⟩:=h;exact⟨v,σ',H',I.unwish,r,q⟩
theorem PE.nox {e:Expr}{t:TE}(h:PE X.nox e t):PE X e t:=λpins s σ H Q I hw=>
 wpAny_mono (h pins s σ H Q (I.wish _) hw) (λ_ _ r9=>by obtain⟨v,H',I',r,q⟩:=r9;exact⟨v,H',I'.unwish,r,q⟩) λ_ _ z=>False.elim z
theorem PT.nox {e:Expr}{t:TT}(h:PT X.nox e t):PT X e t:=λpins s σ H Q I hw=>
 wpAny_mono (h pins s σ H Q (I.wish _) hw) (λ_ _ r9=>by obtain⟨H',I',q⟩:=r9;exact⟨H',I'.unwish,q⟩) λ_ _ z=>False.elim z
theorem PSs.nox {st:List Stmt}{t:TS}(h:PSs X.nox st t):PSs X st t:=λpins s σ H D I hw=>
 wpAny_mono (h pins s σ H D (I.wish _) hw) (λ_ _ q=>q.unwish) λ_ _ z=>False.elim z
end
section
variable {X:Cx}{st:Stmt}{Y1:List Stmt}{t u:TS}{e:Expr}{te:TE}{pos:Pos}
noncomputable def Bf:TS:=λD σ H=>D.nx σ H
noncomputable def Qr (t u:TS):TS:=λD σ H=>t {D with nx:=u D} σ H
theorem Xf:PSs X [] Bf:=λ_ _ σ H _ I h=>wpAny_execs_nil ⟨σ,H,I,h⟩
theorem Xb (h1:PS X st t)(h2:PSs X Y1 u):PSs X (st::Y1) (Qr t u):=by
 intro pins s σ H D I h
 refine wpAny_execs_cons (thn (h1 pins s σ H {D with nx:=u D} I h) λf s1 q=>?_)
 cases f with
 |next=>
  obtain⟨σ',H',I',q⟩:=q
  exact h2 pins s1 σ' H' D I' q
 |ret v=>exact q
 |brk=>exact q
 |cont=>exact q
theorem EO (h1:PS X st t):PSs X [st] t:=by
 intro pins s σ H D I h
 refine wpAny_execs_cons (thn (h1 pins s σ H D I h) λf s1 q=>?_)
 cases f with
 |next=>exact wpAny_execs_nil q
 |ret v=>exact q
 |brk=>exact q
 |cont=>exact q
theorem Inv.quiet {pins:List (Addr×Obj)}{σ:St}{H:Hp}{s:Shared}(I:Inv X pins σ H s):interactive X.env=false:=by simp[interactive,I.ok.kind]
noncomputable def Jd (te:TE):TS:=λD σ H=>te σ H λ_ H1=>D.nx σ H1
theorem XN (he:PE X e te)(hs:swapsWith e none pos.line X.env=pure false:=by rfl):PS X (.Expr e pos) (Jd te):=by
 intro pins s σ H D I h
 exact wpAny_Expr_any (thn (he pins s σ H _ I h) λv s1 r9=>by obtain⟨x,H1,I1,r1,q1⟩:=r9;exact⟨σ,H1,I1,q1⟩) I.quiet hs
noncomputable def LU (te:TE):TS:=λD σ H=>te σ H D.rt
theorem XC (he:PE X e te):PS X (.Return (some e) pos) (LU te):=by
 intro pins s σ H D I h
 exact wpAny_Return_some (thn (he pins s σ H _ I h) λv s1 r9=>by obtain⟨x,H1,I1,r1,q1⟩:=r9;exact⟨x,σ,H1,I1,r1,q1⟩)
noncomputable def IS (c:TT)(t u:TS):TS:=λD σ H=>c σ H λb H1=>if b=true then t D σ H1 else u D σ H1
theorem XW {c:Expr}{a b:List Stmt}{tc:TT}(hc:PT X c tc)(ha:PSs X a t)(hb:PSs X b u):PS X (.If c a b pos) (IS tc t u):=by
 intro pins s σ H D I h
 refine wpAny_If (thn (hc pins s σ H _ I h) λd s1 r9=>?_)
 obtain⟨H1,I1,q1⟩:=r9
 cases d with
 |true=>exact ha pins s1 σ H1 D I1 q1
 |false=>exact hb pins s1 σ H1 D I1 q1
end
noncomputable abbrev TG:=V->St->Hp->(St->Hp->Prop)->Prop
noncomputable abbrev TGs:=List V->St->Hp->(St->Hp->Prop)->Prop
noncomputable def PG (X:Cx)(target:Expr)(t:TG):Prop:=
 ∀(pins:List (Addr×Obj)) (s:Shared) (σ:St) (H:Hp) (v:V) (u:Value) (Q:St->Hp->Prop),Inv X pins σ H s->X8 v u->t v σ H Q->
  wpAny (model X.prog X.w) X.A (assign target X.env u) (λ_ s'=>∃ σ' H',Inv X pins σ' H' s'/\Q σ' H') X.xe s
noncomputable def PGs (X:Cx)(ts:List Expr)(t:TGs):Prop:=
 ∀(pins:List (Addr×Obj)) (s:Shared) (σ:St) (H:Hp) (vs:List V) (us:List Value) (Q:St->Hp->Prop),Inv X pins σ H s->Yg vs us->t vs σ H Q->
  wpAny (model X.prog X.w) X.A (assignInOrder ((assignEach ts X.env).map (·.2)) us) (λ_ s'=>∃ σ' H',Inv X pins σ' H' s'/\Q σ' H') X.xe s
noncomputable abbrev IZ:=V->V->V->Hp->(Hp->Prop)->Prop
noncomputable def LV (X:Cx)(t:IZ):Prop:=
 ∀(pins:List (Addr×Obj)) (s:Shared) (σ:St) (H:Hp) (o i v:V) (ov iv u:Value) (Q:Hp->Prop),Inv X pins σ H s->X8 o ov->X8 i iv->X8 v u->t o i v H Q->
  wpAny (model X.prog X.w) X.A (setItem ov iv u) (λ_ s'=>∃ H',Inv X pins σ H' s'/\Q H') X.xe s
section
variable {X:Cx}{pos:Pos}
noncomputable def Z2 (i:Nat):TG:=λv σ H Q=>Q (σ.set i (some v)) H
theorem Xy {i:Nat}{x:Str}(hN:X.N.Nodup)(hi:X.N[i]?=some x)(hx:Loc X.env.scope x)(hf:X.fn x=true∨X.env.scope.names.lookup x=some .local:=by first |exact .inl rfl |exact .inr rfl |assumption):PG X (.Name x pos) (Z2 i):=by
 intro pins s σ H v u Q I r h
 exact wpAny_assign_Name (UA I hN hi hx r (λs' I'=>⟨_,H,I',h⟩) hf)
noncomputable def Hv:TGs:=λvs σ H Q=>vs=[]/\Q σ H
noncomputable def V8 (t:TG)(u:TGs):TGs:=λvs σ H Q=>∃ v r,vs=v::r/\t v σ H λσ' H'=>u r σ' H' Q
theorem ZE:PGs X [] Hv:=by
 intro pins s σ H vs us Q I r h
 obtain⟨e,h⟩:=h
 subst e
 cases r
 exact assignInOrder_nil ⟨σ,H,I,h⟩
theorem XX {e:Expr}{es:List Expr}{t:TG}{u:TGs}(h1:PG X e t)(h2:PGs X es u)
  (hs:(assignEach (e::es) X.env).map (·.2)=assign e X.env::(assignEach es X.env).map (·.2):=by rfl):PGs X (e::es) (V8 t u):=by
 intro pins s σ H vs us Q I r h
 obtain⟨v,vr,e1,h⟩:=h
 subst e1
 cases r with
 |cons r rr=>
  rw[hs]
  refine assignInOrder_cons (thn (h1 pins s σ H _ _ _ I r h) λ_ s1 r9=>?_)
  obtain⟨σ1,H1,I1,q1⟩:=r9
  exact h2 pins s1 σ1 H1 _ _ Q I1 rr q1
noncomputable def Hg (K:PySem.W.Frag)(n:Nat)(t:TGs):TG:=λv σ H Q=>∃ a xs,v= .ref a/\SqT K H a xs/\xs.length=n/\t xs σ H Q
theorem Qt {es:List Expr}{k:Nat}{t:TGs}{n:Nat}(hc:X.calm=true)(h:PGs X es t)
  (hn:(assignEach es X.env).length=n:=by rfl)(hst:(assignEach es X.env).findIdx? (·.1)=none:=by rfl):PG X (.Tuple es k pos) (Hg X.K n t):=by
 intro pins s σ H v u Q I r hw
 obtain⟨a,xs,e1,hq,hl,hw⟩:=hw
 subst e1
 cases r
 obtain⟨its,rv,ht,hz⟩:=I.tuple hq
 refine assign_Tuple_tuple (I.ok.hd hc) ht (by simp[hn, ←hl,rv.length]) hst λh' hx=>?_
 have I1:Inv X pins σ H {s with heap:=h'}:=I.kept (t':=s.toks) λb o e=>hx b o (Nat.ne_of_lt (Heap.lt_size e)) e
 exact h pins _ σ H xs _ Q I1 (by simpa using rv) hw
noncomputable def Ls (to ti:TE)(t:IZ):TG:=λv σ H Q=>to σ H λo H1=>ti σ H1 λi H2=>t o i v H2 λH3=>Q σ H3
theorem UQ {o i:Expr}{to ti:TE}{t:IZ}(ho:PE X o to)(hi:PE X i ti)(hs:LV X t)
  (ha:∀v,assign (.Subscript o i pos) X.env v=(do
   let ov ←holding [v] (eval o X.env)
   let iv ←holding [v,ov] (eval i X.env)
   standAt pos
   holding [v,ov,iv] (setItem ov iv v)
   release [v,ov,iv] []):=by intro _;rfl):PG X (.Subscript o i pos) (Ls to ti t):=by
 intro pins s σ H v u Q I r h
 rw[ha]
 refine wpAny_bind (wpAny_holding (thn (ho pins s σ H _ I h) λov s1 r9=>?_))
 obtain⟨x,H1,I1,r1,q1⟩:=r9
 refine wpAny_bind (wpAny_holding (thn (hi pins s1 σ H1 _ I1 q1) λiv s2 r9=>?_))
 obtain⟨y,H2,I2,r2,q2⟩:=r9
 refine wpAny_bind (wpAny_standAt (wpAny_bind (wpAny_holding (thn (hs pins s2 σ H2 x y v ov iv u _ I2 r1 r2 r q2) λ_ s3 r9=>?_))))
 obtain⟨H3,I3,q3⟩:=r9
 exact wpAny_release ⟨σ,H3,I3,q3⟩
noncomputable def FU (te:TE)(g:TG):TS:=λD σ H=>te σ H λx H1=>g x σ H1 D.nx
theorem Z8 {tg e:Expr}{te:TE}{g:TG}(he:PE X e te)(hg:PG X tg g)(hs:swapsWithSole [tg] e pos.line X.env=pure false:=by rfl)(hw:swappedStores [tg] e X.env=pure none:=by rfl)
  (h1:(assignEach [tg] X.env).map (·.2)=[assign tg X.env]:=by rfl):PS X (.Assign [tg] e pos) (FU te g):=by
 intro pins s σ H D I h
 refine wpAny_Assign_stores (thn (he pins s σ H _ I h) λv s1 r9=>?_) hs hw
 obtain⟨x,H1,I1,r1,q1⟩:=r9
 rw[h1]
 exact thn (hg pins s1 σ H1 x v _ I1 r1 q1) λ_ s2 q=>q
theorem Xs {i:Nat}{x:Str}{e:Expr}{te:TE}{pos':Pos}(hN:X.N.Nodup)(hi:X.N[i]?=some x)(hx:Loc X.env.scope x)(he:PE X e te)(hs:swapsWith e (some (.Name x pos')) pos.line X.env=pure false:=by rfl)(hf:X.fn x=true∨X.env.scope.names.lookup x=some .local:=by first |exact .inl rfl |exact .inr rfl |assumption):
  PS X (.Assign [.Name x pos'] e pos) (FU te (Z2 i)):=by
 intro pins s σ H D I h
 refine wpAny_Assign_Name (thn (he pins s σ H _ I h) λv s1 r9=>?_) hs
 obtain⟨y,H1,I1,r1,q1⟩:=r9
 exact UA I1 hN hi hx r1 (λs2 I2=>⟨_,H1,I2,q1⟩) hf
end
section
variable {X:Cx}{pos:Pos}
noncomputable def BF (c:TT)(tb:TS):TS:=λD σ H=>∃ W:Nat->St->Hp->Prop,(∃m,W m σ H)/\∀m σ H,W m σ H->
 c σ H λb H1=>if b=true then ∃N:St->Hp->Prop,(∀σ' H',N σ' H'->∃m',m'<m/\W m' σ' H')/\tb {D with nx:=N,ct:=N,bk:=D.nx} σ H1 else D.nx σ H1
theorem Co {c:Expr}{body:List Stmt}{tc:TT}{tb:TS}(hp:PassesOwn (model X.prog X.w) X.A X.env X.xe)(hc:PT X c tc)(hb:PSs X body tb):PS X (.While c body [] pos) (BF tc tb):=by
 intro pins s σ H D I h
 obtain⟨W,⟨m0,w0⟩,turn⟩:=h
 refine wpAny_While (codeAny_whileLoop (λn s'=>∃ σ' H',Inv X pins σ' H' s'/\W n σ' H') ?_ m0 ⟨σ,H,I,w0⟩)
 rintro n s1 ⟨σ1,H1,I1,w1⟩
 refine wpAny_passesOwn hp (thn (hc pins s1 σ1 H1 _ I1 (turn n σ1 H1 w1)) λb s2 r9=>?_)
 obtain⟨H2,I2,q2⟩:=r9
 cases b with
 |true=>
  obtain⟨N,hN,q2⟩:=q2
  rw[if_pos rfl]
  refine wpAny_passesOwn hp (thn (hb pins s2 σ1 H2 _ I2 q2) λf s3 q3=>?_)
  cases f with
  |next=>
   obtain⟨σ3,H3,I3,n3⟩:=q3
   obtain⟨m',hm,w3⟩:=hN σ3 H3 n3
   exact⟨m',hm,σ3,H3,I3,w3⟩
  |cont=>
   obtain⟨σ3,H3,I3,n3⟩:=q3
   obtain⟨m',hm,w3⟩:=hN σ3 H3 n3
   exact⟨m',hm,σ3,H3,I3,w3⟩
  |brk=>exact q3
  |ret v=>exact q3
 |false=>
  rw[if_neg Bool.false_ne_true]
  exact wpAny_execs_nil ⟨σ1,H2,I2,q2⟩
end
structure It where
 go:Nat->Hp->Prop
 yld:Nat->Hp->V->Hp->Prop
 stop:Nat->Hp->Prop
noncomputable def K0 (X:Cx)(pins:List (Addr×Obj))(H:Hp)(b:Addr):Prop:=
 H b=none/\b≠X.env.locals/\b∉X.fs/\(b∈X.ex∨X.s₀.heap.objs.size<=b)/\(∀x c,X.env.cells.lookup x=some c->c≠b)/\∀p∈X.pn++pins,p.1≠b
theorem Inv.fpOk {X:Cx}{pins:List (Addr×Obj)}{σ:St}{H H':Hp}{s:Shared}{b:Addr}(I:Inv X pins σ H s)(hb:s.heap.objs.size<=b)(hn:H' b=none):K0 X pins H' b:=by
 refine⟨hn,Nat.ne_of_gt (Nat.lt_of_lt_of_le I.lt hb),I.nofs hb, .inr (Nat.le_trans I.sz hb),λx c e z=>?_,λp hp z=>?_⟩
 ·obtain⟨v,q⟩:=I.cell x c e
  exact absurd (Nat.lt_of_lt_of_le q.lt (by rw[z];exact hb)) (Nat.lt_irrefl _)
 ·exact absurd (Nat.lt_of_lt_of_le (Heap.lt_size (I.pin p hp).1) (by rw[z];exact hb)) (Nat.lt_irrefl _)
structure Turn (P:Program)(w:World)(K:PySem.W.Frag)(tg:Expr)(J:It)(fp:List Addr)(it:Addr)(tn:Nat->Heap->Prop):Prop where
 mem:it∈fp
 obj:∀i h,tn i h->∀b∈fp,∃o,h.get? b=some o/\∀v,o.data≠ .cell v
 keep:∀i h h',tn i h->(∀b∈fp,∀o,h.get? b=some o->h'.get? b=some o)->tn i h'
 item:∀(X:Cx),X.prog=P->X.w=w->X.K=K->X.calm=true->∀(i:Nat) (pins:List (Addr×Obj)) (s:Shared) (σ:St) (H:Hp) (E:Value->Shared->Prop),Inv X pins σ H s->(∀b∈fp,K0 X pins H b)->tn i s.heap->J.go i H->
  wpAny (model P w) X.A (pyNext (.ref it)) (λr s1=>∃ u,r=some u/\
   wpAny (model P w) X.A (letOwnedTupleGo tg (.ref it) u) (λ_ s2=>∃ x H',Inv X pins σ H' s2/\X8 x u/\J.yld i H x H'/\tn (i+1) s2.heap/\∀b∈fp,H' b=none) E s1) E s
 done:∀(X:Cx),X.prog=P->X.w=w->X.K=K->X.calm=true->∀(i:Nat) (pins:List (Addr×Obj)) (s:Shared) (σ:St) (H:Hp) (E:Value->Shared->Prop),Inv X pins σ H s->(∀b∈fp,K0 X pins H b)->tn i s.heap->J.stop i H->
  wpAny (model P w) X.A (pyNext (.ref it)) (λr s1=>r=none/\Inv X pins σ H s1) E s
 self:∀(A:Around) (i:Nat) (s:Shared) (Q:Value->Shared->Prop) (E:Value->Shared->Prop),tn i s.heap->Q (.ref it) s->wpAny (model P w) A (pyIter (.ref it)) Q E s
noncomputable abbrev TI:=St->Hp->(It->Hp->Prop)->Prop
noncomputable def PIE (X:Cx)(pins:List (Addr×Obj))(σ:St)(tg:Expr)(R:It->Hp->Prop)(itv:Value)(s2:Shared):Prop:=
 ∃(it:Addr) (fp:List Addr) (tn:Nat->Heap->Prop) (J:It) (H':Hp),itv= .ref it/\Inv X pins σ H' s2/\Turn X.prog X.w X.K tg J fp it tn/\tn 0 s2.heap/\(∀b∈fp,K0 X pins H' b)/\R J H'
noncomputable def PI (X:Cx)(tg iter:Expr)(wi:TI):Prop:=
 ∀(pins:List (Addr×Obj)) (s:Shared) (σ:St) (H:Hp) (R:It->Hp->Prop),Inv X pins σ H s->wi σ H R->
  wpAny (model X.prog X.w) X.A (eval iter X.env) (λv s1=>wpAny (model X.prog X.w) X.A (pyIter v) (PIE X pins σ tg R) X.xe s1) X.xe s
theorem Eh {M:Model}{A:Around}{E:Value->Shared->Prop}{s:Shared}{tg:Expr}{it:Addr}{u:Value}{o:Obj}{n:String}{vs:Array Value}{Q:Unit->Shared->Prop}(ho:s.heap.get? it=some o)(hc:o.cls= .type n)(hd:o.data= .fields vs)
    (hn: ["enumerate","zip","dict_itemiterator","dict_reverseitemiterator","odict_iterator","itertools.zip_longest","itertools.pairwise"].contains n=false)(hQ:Q () s):wpAny M A (letOwnedTupleGo tg (.ref it) u) Q E s:=by
  unfold letOwnedTupleGo
  cases tg<;> first
    |exact wpAny_pure hQ
    | (cases u<;> first
        |exact wpAny_pure hQ
        | (refine wpAny_bind (wpAny_load ho ?_)
           rw[hc,hd]
           show wpAny M A (if(["enumerate","zip","dict_itemiterator","dict_reverseitemiterator","odict_iterator","itertools.zip_longest","itertools.pairwise"].contains n&&vs[0]?==some (rawInt _))=true then _ else _) Q E s
           rw[if_neg (by intro h;rw[hn,Bool.false_and] at h;cases h)]
           exact wpAny_pure hQ))
noncomputable def Itl (K:PySem.W.Frag)(a:Addr):It:=
 ⟨λi H=>∃ xs x,SqL K H a xs/\xs[i]?=some x,λi H x H'=>H'=H/\∀xs,SqL K H a xs->xs[i]?=some x,λi H=>∃ xs,SqL K H a xs/\xs.length<=i⟩
noncomputable def Itt (K:PySem.W.Frag)(a:Addr):It:=
 ⟨λi H=>∃ xs x,SqT K H a xs/\xs[i]?=some x,λi H x H'=>H'=H/\∀xs,SqT K H a xs->xs[i]?=some x,λi H=>∃ xs,SqT K H a xs/\xs.length<=i⟩
noncomputable def Itr (lo:Int)(n:Nat):It:=⟨λi _=>i<n,λi H x H'=>H'=H/\x= .int (lo+i),λi _=>n<=i⟩
theorem DF {P:Program}{w:World}{K:PySem.W.Frag}{tg:Expr}(a it:Addr):Turn P w K tg (Itl K a) [it] it (λi h=>h.IsListIter it a i) where
 mem:=by simp
 obj:=λi h st b hb=>by
  have e:b=it:=by simpa using hb
  subst e
  obtain⟨o,e,c,d⟩:=st
  exact⟨o,e,λv z=>by rw[d] at z;cases z⟩
 keep:=λi h h' st k=>st.at λo e=>k it (by simp) o e
 item:=by
  intro X hP hw hK hc i pins s σ H E I hf st hg
  subst hP hw hK
  obtain⟨xs,x,hq,hx⟩:=hg
  obtain⟨its,rv,p,hz⟩:=I.list hq
  obtain⟨u,hu,ru⟩:=rv.get hx
  obtain⟨f0,f1,f2,f3,f4,f5⟩:=hf it (by simp)
  refine wpAny_pyNext_list_item st p.isList (x:=u) (by simpa using hu) λh' st' sb=>?_
  have I1:Inv X pins σ H {s with heap:=h'}:=I.turned (t':=s.toks) (λb o hb e=>(sb.2 b hb).trans e) f0 f1 f3 f4 f5
  obtain⟨o,e,c,d⟩:=id st'
  exact⟨u,rfl,Eh (s:={s with heap:=h'}) e c d (by decide) ⟨x,H,I1,ru,⟨rfl,λys hy=>by rw[I.list_inj hy hq];exact hx⟩,st',λb hb=>(hf b hb).1⟩⟩
 done:=by
  intro X hP hw hK hc i pins s σ H E I hf st hg
  subst hP hw hK
  obtain⟨xs,hq,hx⟩:=hg
  obtain⟨its,rv,p,hz⟩:=I.list hq
  obtain⟨f0,f1,f2,f3,f4,f5⟩:=hf it (by simp)
  have hl:=rv.length
  exact wpAny_pyNext_list_end (I.ok.hd hc) st p.isList (by simp;(first|lia|omega)) λh' eb=>⟨rfl,I.turned (t':=s.toks) (λb o hb e=>eb b o hb e) f0 f1 f3 f4 f5⟩
 self:=λ_ _ _ _ _ st h=>wpAny_pyIter_listiter st h
theorem G3 {P:Program}{w:World}{K:PySem.W.Frag}{tg:Expr}(a it:Addr):Turn P w K tg (Itt K a) [it] it (λi h=>h.IsTupleIter it a i) where
 mem:=by simp
 obj:=λi h st b hb=>by
  have e:b=it:=by simpa using hb
  subst e
  obtain⟨o,e,c,d⟩:=st
  exact⟨o,e,λv z=>by rw[d] at z;cases z⟩
 keep:=λi h h' st k=>st.at λo e=>k it (by simp) o e
 item:=by
  intro X hP hw hK hc i pins s σ H E I hf st hg
  subst hP hw hK
  obtain⟨xs,x,hq,hx⟩:=hg
  obtain⟨its,rv,p,hz⟩:=I.tuple hq
  obtain⟨u,hu,ru⟩:=rv.get hx
  obtain⟨f0,f1,f2,f3,f4,f5⟩:=hf it (by simp)
  refine wpAny_pyNext_tuple_item st (show s.heap.IsTuple a its.toArray from p) (x:=u) (by simpa using hu) λh' st' sb=>?_
  have I1:Inv X pins σ H {s with heap:=h'}:=I.turned (t':=s.toks) (λb o hb e=>(sb.2 b hb).trans e) f0 f1 f3 f4 f5
  obtain⟨o,e,c,d⟩:=id st'
  exact⟨u,rfl,Eh (s:={s with heap:=h'}) e c d (by decide) ⟨x,H,I1,ru,⟨rfl,λys hy=>by rw[I.tuple_inj hy hq];exact hx⟩,st',λb hb=>(hf b hb).1⟩⟩
 done:=by
  intro X hP hw hK hc i pins s σ H E I hf st hg
  subst hP hw hK
  obtain⟨xs,hq,hx⟩:=hg
  obtain⟨its,rv,p,hz⟩:=I.tuple hq
  obtain⟨f0,f1,f2,f3,f4,f5⟩:=hf it (by simp)
  have hl:=rv.length
  exact wpAny_pyNext_tuple_end (I.ok.hd hc) st (show s.heap.IsTuple a its.toArray from p) (by simp;(first|lia|omega)) λh' eb=>⟨rfl,I.turned (t':=s.toks) (λb o hb e=>eb b o hb e) f0 f1 f3 f4 f5⟩
 self:=λ_ _ _ _ _ st h=>wpAny_pyIter_tupleiter st h
theorem GB {P:Program}{w:World}{K:PySem.W.Frag}{tg:Expr}(it:Addr)(lo:Int)(n:Nat):Turn P w K tg (Itr lo n) [it] it (λi h=>IsRangeIter h it (lo+(i:Nat)*1) ((n:Int)-(i:Nat)) 1) where
 mem:=by simp
 obj:=λi h st b hb=>by
  have e:b=it:=by simpa using hb
  subst e
  exact⟨_,st,λv z=>by
   have z':Data.fields _=Data.cell v:=z
   cases z'⟩
 keep:=λi h h' st k=>k it (by simp) _ st
 item:=by
  intro X hP hw hK hc i pins s σ H E I hf st hg
  subst hP hw hK
  obtain⟨f0,f1,f2,f3,f4,f5⟩:=hf it (by simp)
  have W:=Walks.range (prog:=X.prog) (w:=X.w) (I.ok.hd hc) it lo 1 n
  refine W.item i s _ _ hg st λv h' tk hv st' kk=>?_
  obtain⟨t,rfl⟩:=hv
  have I1:Inv X pins σ H {s with heap:=h',toks:=tk}:=I.turned (λb o hb e=>kk b o (by simpa using hb) e) f0 f1 f3 f4 f5
  refine⟨_,rfl,Eh (s:={s with heap:=h',toks:=tk}) (n:="range_iterator") st' rfl rfl (by decide) ⟨.int (lo+i),H,I1,⟨t,?_⟩,⟨rfl,rfl⟩,st',λb hb=>(hf b hb).1⟩⟩
  rw[Int.mul_one]
 done:=by
  intro X hP hw hK hc i pins s σ H E I hf st hg
  subst hP hw hK
  obtain⟨f0,f1,f2,f3,f4,f5⟩:=hf it (by simp)
  exact wpAny_pyNext_range_end (I.ok.hd hc) st (by have:n<=i:=hg;(first|lia|omega)) λh' eb=>⟨rfl,I.turned (t':=s.toks) (λb o hb e=>eb b o hb e) f0 f1 f3 f4 f5⟩
 self:=λ_ _ _ _ _ st h=>wpAny_pyIter_rangeiter st h
section
variable {X:Cx}{tg:Expr}
noncomputable def EU (K:PySem.W.Frag)(tl:TE):TI:=λσ H R=>tl σ H λx H1=>∃ a,x= .ref a/\(∃xs,SqL K H1 a xs)/\R (Itl K a) H1
noncomputable def La (K:PySem.W.Frag)(tl:TE):TI:=λσ H R=>tl σ H λx H1=>∃ a,x= .ref a/\(∃xs,SqT K H1 a xs)/\R (Itt K a) H1
theorem EM {l:Expr}{tl:TE}(hl:PE X l tl):PI X tg l (EU X.K tl):=by
 intro pins s σ H R I h
 refine thn (hl pins s σ H _ I h) λv s1 r9=>?_
 obtain⟨x,H1,I1,r1,q1⟩:=r9
 obtain⟨a,e,⟨xs,hq⟩,q⟩:=q1
 subst e
 cases r1
 obtain⟨its,rv,p,hz⟩:=I1.list hq
 refine wpAny_pyIter_list p.isList ?_
 refine⟨s1.heap.objs.size,[s1.heap.objs.size],_,_,H1,rfl,I1.kept (t':=s1.toks) λb o e=>Heap.get?_push_of_some _ e,DF a _,⟨_,Heap.get?_push_size _ rfl,rfl,rfl⟩,λb hb=>?_,q⟩
 have e:b=s1.heap.objs.size:=by simpa using hb
 subst e
 exact I1.fpOk (Nat.le_refl _) (I1.hok.fresh (Nat.le_refl _))
theorem Ig {l:Expr}{tl:TE}(hl:PE X l tl):PI X tg l (La X.K tl):=by
 intro pins s σ H R I h
 refine thn (hl pins s σ H _ I h) λv s1 r9=>?_
 obtain⟨x,H1,I1,r1,q1⟩:=r9
 obtain⟨a,e,⟨xs,hq⟩,q⟩:=q1
 subst e
 cases r1
 obtain⟨its,rv,p,hz⟩:=I1.tuple hq
 refine wpAny_pyIter_tuple (show s1.heap.IsTuple a its.toArray from p) ?_
 refine⟨s1.heap.objs.size,[s1.heap.objs.size],_,_,H1,rfl,I1.kept (t':=s1.toks) λb o e=>Heap.get?_push_of_some _ e,G3 a _,⟨_,Heap.get?_push_size _ rfl,rfl,rfl⟩,λb hb=>?_,q⟩
 have e:b=s1.heap.objs.size:=by simpa using hb
 subst e
 exact I1.fpOk (Nat.le_refl _) (I1.hok.fresh (Nat.le_refl _))
theorem Cq {pins:List (Addr×Obj)}{σ:St}{H:Hp}{s:Shared}{R:It->Hp->Prop}{E:Value->Shared->Prop}{lo hi:Int}{t u v:Tok}{tk:Nat}(I:Inv X pins σ H s)(h1: -(2^62)<=lo)(h2:lo<2^62)(h3: -(2^62)<=hi)(h4:hi<2^62)
  (q:R (Itr lo (hi-lo).toNat) H):wpAny (model X.prog X.w) X.A (pyIter (.ref s.heap.objs.size)) (PIE X pins σ tg R) E {s with heap:=s.heap.push {cls:=.type "range",data:=.fields #[.int lo t, .int hi u, .int 1 v]},toks:=tk}:=by
 refine wpAny_pyIter_range (IsRange.new ..) (small_one h1 h2 h3 h4) ?_
 have I1:Inv X pins σ H {s with heap:=s.heap.push {cls:=.type "range",data:=.fields #[.int lo t, .int hi u, .int 1 v]},toks:=tk}:=I.kept λb o e=>Heap.get?_push_of_some _ e
 refine⟨(s.heap.push {cls:=.type "range",data:=.fields #[.int lo t, .int hi u, .int 1 v]}).objs.size,[(s.heap.push {cls:=.type "range",data:=.fields #[.int lo t, .int hi u, .int 1 v]}).objs.size],_,_,H,rfl,
  I1.kept (t':=tk) λb o e=>Heap.get?_push_of_some _ e,GB _ lo (hi-lo).toNat,?_,λb hb=>?_,q⟩
 ·have e1:lo+((0:Nat):Int)*1=lo:=by simp
  have e2:(((hi-lo).toNat:Nat):Int)-((0:Nat):Int)=Builtin.Range.rangeSize lo hi 1:=by rw[rangeSize_one];split<;> (first|lia|omega)
  show IsRangeIter _ _ (lo+((0:Nat):Int)*1) ((((hi-lo).toNat:Nat):Int)-((0:Nat):Int)) 1
  rw[e1,e2]
  exact Heap.get?_push_size _ rfl
 ·have e:b=(s.heap.push {cls:= .type "range",data:= .fields #[.int lo t, .int hi u, .int 1 v]}).objs.size:=by simpa using hb
  subst e
  exact I1.fpOk (Nat.le_refl _) (I1.hok.fresh (Nat.le_refl _))
noncomputable def HE (ta:TA):TI:=λσ H R=>ta σ H λvs H1=>∃ j:Int,vs=[.int j]/\ -(2^62)<=j/\j<2^62/\R (Itr 0 j.toNat) H1
theorem Yb {a:Expr}{ta:TA}{p pos:Pos}(hg:Gl X "range")(hm:X.mg "range" =none)(ha:PA X [a] ta)(hs:starEach [a] X.env=[(false,eval a X.env)]:=by rfl):PI X tg (.Call (.Name "range" p) [a] [] pos) (HE ta):=by
 intro pins s σ H R I h
 refine Call_ (UP I hg hm boot_range (PyProof.Rows.callWith_type1 (thn (ha pos pins s σ H _ I h) λus s1 r9=>?_) hs rfl))
 obtain⟨vs,H1,I1,r1,q1⟩:=r9
 obtain⟨j,e,q1,q2,q⟩:=q1
 subst e
 cases r1 with
 |cons r rr=>
  cases rr
  obtain⟨t,rfl⟩:=r
  exact call_range_1 (Cq I1 (by (first|lia|omega)) (by (first|lia|omega)) q1 q2 (by simpa using q))
noncomputable def IN (wi:TI)(g:TG)(tb:TS):TS:=λD σ H=>wi σ H λJ H1=>∃ W:Nat->Nat->St->Hp->Prop,(∃m,W 0 m σ H1)/\∀i m σ H,W i m σ H->
 (J.stop i H/\D.nx σ H)∨(J.go i H/\∃N:St->Hp->Prop,(∀σ' H',N σ' H'->∃m',m'<m/\W (i+1) m' σ' H')/\∀x H',J.yld i H x H'->g x σ H' λσ2 H2=>tb {D with nx:=N,ct:=N,bk:=D.nx} σ2 H2)
noncomputable def US (fp:List Addr)(h:Heap):List (Addr×Obj):=fp.filterMap λb=>(h.get? b).map λo=>(b,o)
theorem Jb {fp:List Addr}{h:Heap}{b:Addr}{o:Obj}(hb:b∈fp)(e:h.get? b=some o):(b,o)∈US fp h:=List.mem_filterMap.mpr ⟨b,hb,by rw[e];rfl⟩
theorem Dq {fp:List Addr}{h:Heap}{p:Addr×Obj}(hp:p∈US fp h):p.1∈fp/\h.get? p.1=some p.2:=by
 obtain⟨b,hb,e⟩:=List.mem_filterMap.mp hp
 cases q:h.get? b with
 |none=>rw[q] at e;cases e
 |some o=>
  rw[q] at e
  have e':(b,o)=p:=Option.some.inj e
  subst e'
  exact⟨hb,q⟩
theorem Inv.pinned {pins:List (Addr×Obj)}{σ:St}{H:Hp}{s:Shared}{fp:List Addr}(I:Inv X pins σ H s)(hf:∀b∈fp,K0 X pins H b)(ho:∀b∈fp,∃o,s.heap.get? b=some o/\∀v,o.data≠ .cell v):Inv X (pins++US fp s.heap) σ H s:=
 I.pins_of λp hp=>(List.mem_append.mp hp).elim (λz=>I.pin p (List.mem_append_right _ z)) λz=>by
  obtain⟨hb,e⟩:=Dq z
  obtain⟨f0,f1,f2,_⟩:=hf p.1 hb
  obtain⟨o,e',d⟩:=ho p.1 hb
  rw[e] at e';cases e'
  exact⟨e,f0,f1,f2,d⟩
theorem Inv.unpinned {pins pl:List (Addr×Obj)}{σ:St}{H:Hp}{s:Shared}(I:Inv X (pins++pl) σ H s):Inv X pins σ H s:=I.pins_of λp hp=>I.pin p (List.mem_append_right _ (List.mem_append_left _ hp))
theorem Yv {iter:Expr}{body:List Stmt}{wi:TI}{g:TG}{tb:TS}{pos:Pos}(hp:PassesOwn (model X.prog X.w) X.A X.env X.xe)(hc:X.calm=true)(hi:PI X tg iter wi)(hg:PG X tg g)(hb:PSs X body tb)
  (hs:∀x,foldedSetIterable iter X.env x=pure x:=by intro _;rfl):PS X (.For tg iter body [] pos) (IN wi g tb):=by
 intro pins s σ H D I h
 refine wpAny_For (thn (hi pins s σ H _ I h) λv s1 h1=>thn h1 λitv s2 h2=>?_) hs
 obtain⟨it,fp,tn,J,H2,e,I2,T,st2,f2,W,⟨m0,w0⟩,turn⟩:=h2
 subst e
 -- what stays true of the iterator's objects through the loop
 have stat:∀{H':Hp},(∀b∈fp,H' b=none)->∀b∈fp,K0 X pins H' b:=λhn b hb=>⟨hn b hb,(f2 b hb).2⟩
 refine codeAny_forLoop_any (λn s'=>∃ i σ' H',Inv X pins σ' H' s'/\tn i s'.heap/\(∀b∈fp,H' b=none)/\W i n σ' H') ?_ m0 ⟨0,σ,H2,I2,st2,λb hb=>(f2 b hb).1,w0⟩
 rintro n s3 ⟨i,σ3,H3,I3,st3,fr3,w3⟩
 rcases turn i n σ3 H3 w3 with⟨stop,qn⟩ | ⟨go,N,hN,step⟩
 ·refine wpAny_passesOwn hp (thn (T.done X rfl rfl rfl hc i pins s3 σ3 H3 X.xe I3 (stat fr3) st3 stop) λr s4 r9=>?_)
  obtain⟨hr,I4⟩:=r9
  subst hr
  exact wpAny_execs_nil ⟨σ3,H3,I4,qn⟩
 ·refine wpAny_passesOwn hp (thn (T.item X rfl rfl rfl hc i pins s3 σ3 H3 X.xe I3 (stat fr3) st3 go) λr s4 r9=>?_)
  obtain⟨u,hr,h4⟩:=r9
  subst hr
  refine wpAny_passesOwn hp (thn h4 λ_ s5 r9=>?_)
  obtain⟨x,H5,I5,r5,y5,st5,fr5⟩:=r9
  have I5':=I5.pinned (stat fr5) (T.obj _ _ st5)
  refine wpAny_passesOwn hp (thn (hg _ s5 σ3 H5 x u _ I5' r5 (step x H5 y5)) λ_ s6 r9=>?_)
  obtain⟨σ6,H6,I6,q6⟩:=r9
  refine wpAny_passesOwn hp (thn (hb _ s6 σ6 H6 _ I6 q6) λf s7 q7=>?_)
  have again:∀{σ7:St}{H7:Hp},Inv X (pins++US fp s5.heap) σ7 H7 s7->N σ7 H7->∃m,m<n/\∃i σ' H',Inv X pins σ' H' s7/\tn i s7.heap/\(∀b∈fp,H' b=none)/\W i m σ' H':=fun {σ7 H7} I7 n7=>by
   obtain⟨m',hm,w7⟩:=hN σ7 H7 n7
   refine⟨m',hm,i+1,σ7,H7,I7.unpinned,T.keep _ _ _ st5 λb hb o e=>(I7.pin (b,o) (List.mem_append_right _ (List.mem_append_right _ (Jb hb e)))).1,λb hb=>?_,w7⟩
   obtain⟨o,e,d⟩:=T.obj _ _ st5 b hb
   exact(I7.pin (b,o) (List.mem_append_right _ (List.mem_append_right _ (Jb hb e)))).2.1
  cases f with
  |next=>obtain⟨σ7,H7,I7,n7⟩:=q7;exact again I7 n7
  |cont=>obtain⟨σ7,H7,I7,n7⟩:=q7;exact again I7 n7
  |brk=>obtain⟨σ7,H7,I7,q7⟩:=q7;exact⟨σ7,H7,I7.unpinned,q7⟩
  |ret v=>obtain⟨x7,σ7,H7,I7,r7,q7⟩:=q7;exact⟨x7,σ7,H7,I7.unpinned,r7,q7⟩
end
noncomputable abbrev R2:=V->V->Hp->VK->Prop
noncomputable def OpR (X:Cx)(f:Value->Value->Sem Value)(r:R2):Prop:=
 ∀(pins:List (Addr×Obj)) (s:Shared) (σ:St) (H:Hp) (x y:V) (v u:Value) (Q:VK),Inv X pins σ H s->X8 x v->X8 y u->r x y H Q->
  wpAny (model X.prog X.w) X.A (f v u) (EP X pins σ Q) X.xe s
noncomputable def UnR (X:Cx)(f:Value->Sem Value)(r:V->Hp->VK->Prop):Prop:=
 ∀(pins:List (Addr×Obj)) (s:Shared) (σ:St) (H:Hp) (x:V) (v:Value) (Q:VK),Inv X pins σ H s->X8 x v->r x H Q->
  wpAny (model X.prog X.w) X.A (f v) (EP X pins σ Q) X.xe s
noncomputable def Qj (X:Cx)(f:Value)(r:List V->Hp->VK->Prop):Prop:=
 ∀(pins:List (Addr×Obj)) (s:Shared) (σ:St) (H:Hp) (xs:List V) (us:List Value) (Q:VK),Inv X pins σ H s->Yg xs us->r xs H Q->
  wpAny (model X.prog X.w) X.A (call f us) (EP X pins σ Q) X.xe s
noncomputable def tOp (r:R2)(ta tb:TE):TE:=λσ H Q=>ta σ H λx H1=>tb σ H1 λy H2=>r x y H2 Q
noncomputable def tUn (r:V->Hp->VK->Prop)(ta:TE):TE:=λσ H Q=>ta σ H λx H1=>r x H1 Q
noncomputable def rI (C:Int->Int->Prop)(g:Int->Int->V):R2:=λx y H Q=>∃ i j,x= .int i/\y= .int j/\C i j/\Q (g i j) H
noncomputable def rI0 (g:Int->Int->V):R2:=λx y H Q=>∃ i j,x= .int i/\y= .int j/\Q (g i j) H
noncomputable def rU (g:Int->V):V->Hp->VK->Prop:=λx H Q=>∃ i,x= .int i/\Q (g i) H
section
variable {X:Cx}{a b c:Expr}{ta tb tc:TE}{pos:Pos}
theorem Li (ha:PE X a ta)(hb:PE X b tb){pins:List (Addr×Obj)}{s:Shared}{σ:St}{H:Hp}{R:V->V->Hp->Prop}(I:Inv X pins σ H s)
  (h:ta σ H λx H1=>tb σ H1 λy H2=>R x y H2){Q:Value->Shared->Prop}{f:Value->Value->Sem Value}
  (hf:∀v u s2 x y H2,Inv X pins σ H2 s2->X8 x v->X8 y u->R x y H2->wpAny (model X.prog X.w) X.A (f v u) Q X.xe s2):
  wpAny (model X.prog X.w) X.A (eval a X.env) (λv s₁=>wpAny (model X.prog X.w) X.A (eval b X.env) (λu s₂=>wpAny (model X.prog X.w) X.A (f v u) Q X.xe s₂) X.xe s₁) X.xe s:=by
 refine thn (ha pins s σ H _ I h) λv s1 r9=>?_
 obtain⟨x,H1,I1,r1,q1⟩:=r9
 refine thn (hb pins s1 σ H1 _ I1 q1) λu s2 r9=>?_
 obtain⟨y,H2,I2,r2,q2⟩:=r9
 exact hf v u s2 x y H2 I2 r1 r2 q2
theorem Xq {op:Operator}{r:R2}(ho:OpR X (binaryOp op) r)(ha:PE X a ta)(hb:PE X b tb):PE X (.BinOp a op b pos) (tOp r ta tb):=by
 intro pins s σ H Q I h
 exact wpAny_BinOp (Li ha hb I h λv u s2 x y H2 I2 rx ry q=>ho pins s2 σ H2 x y v u Q I2 rx ry q)
theorem Vr {op:UnaryOp}{r:V->Hp->VK->Prop}(ho:UnR X (unaryOp op) r)(ha:PE X a ta):PE X (.UnaryOp op a pos) (tUn r ta):=by
 intro pins s σ H Q I h
 exact UnaryOp_ (thn (ha pins s σ H _ I h) λv s1 r9=>by obtain⟨x,H1,I1,r1,q1⟩:=r9;exact ho pins s1 σ H1 x v Q I1 r1 q1)
theorem opI {f:Value->Value->Sem Value}{C:Int->Int->Prop}{g:Int->Int->Int}
  (rule:∀(i j:Int) (t u:Tok) (s:Shared) (Q:Value->Shared->Prop) (E:Value->Shared->Prop),C i j->Q (.int (g i j) s.toks) {s with toks:=s.toks+1}->wpAny (model X.prog X.w) X.A (f (.int i t) (.int j u)) Q E s):
  OpR X f (rI C λi j=>.int (g i j)):=by
 intro pins s σ H x y v u Q I rx ry h
 obtain⟨i,j,rfl,rfl,hc,q⟩:=h
 obtain⟨t,rfl⟩:=rx
 obtain⟨t',rfl⟩:=ry
 exact rule i j t t' s _ _ hc ⟨.int (g i j),H,I.tok _,⟨_,rfl⟩,q⟩
theorem LA {f:Value->Value->Sem Value}{g:Int->Int->Int}
  (rule:∀(i j:Int) (t u:Tok) (s:Shared) (Q:Value->Shared->Prop) (E:Value->Shared->Prop),Q (.int (g i j) s.toks) {s with toks:=s.toks+1}->wpAny (model X.prog X.w) X.A (f (.int i t) (.int j u)) Q E s):
  OpR X f (rI0 λi j=>.int (g i j)):=by
 intro pins s σ H x y v u Q I rx ry h
 obtain⟨i,j,rfl,rfl,q⟩:=h
 obtain⟨t,rfl⟩:=rx
 obtain⟨t',rfl⟩:=ry
 exact rule i j t t' s _ _ ⟨.int (g i j),H,I.tok _,⟨_,rfl⟩,q⟩
theorem Ll {f:Value->Value->Sem Value}{g:Int->Int->Bool}
  (rule:∀(i j:Int) (t u:Tok) (s:Shared) (Q:Value->Shared->Prop) (E:Value->Shared->Prop),Q (.bool (g i j)) s->wpAny (model X.prog X.w) X.A (f (.int i t) (.int j u)) Q E s):
  OpR X f (rI0 λi j=>.bl (g i j)):=by
 intro pins s σ H x y v u Q I rx ry h
 obtain⟨i,j,rfl,rfl,q⟩:=h
 obtain⟨t,rfl⟩:=rx
 obtain⟨t',rfl⟩:=ry
 exact rule i j t t' s _ _ ⟨.bl (g i j),H,I,rfl,q⟩
noncomputable def LI (i j:Int):Prop:=0<=j/\j<=1000000/\i.natAbs<2^64
noncomputable def IL (i j:Int):Prop:=(-(2^64)<i/\i<2^64)∨(-(2^64)<j/\j<2^64)
theorem IL.ok {i j:Int}(h:IL i j):IntMulOk i j:=by
 rcases h with⟨h1,h2⟩ | ⟨h1,h2⟩
 ·exact .of_left (intBits_le_64 h1 h2)
 ·exact .of_right (intBits_le_64 h1 h2)
theorem XZ:OpR X (binaryOp .Add) (rI0 λi j=>.int (i+j)):=LA λ_ _ _ _ _ _ _ q=>add_int q
theorem QS:OpR X (binaryOp .Sub) (rI0 λi j=>.int (i-j)):=LA λ_ _ _ _ _ _ _ q=>sub_int q
theorem YC:OpR X (binaryOp .Mult) (rI IL λi j=>.int (i*j)):=opI λ_ _ _ _ _ _ _ hc q=>mul_int q hc.ok
theorem Yl:OpR X (binaryOp .Mod) (rI (λ_ j=>0<j) λi j=>.int (i % j)):=opI λi j _ _ _ _ _ hc q=>by
 have h1:(0:Int)<j:=hc
 exact mod_int' (by (first|lia|omega)) (by rw[Int.fmod_eq_emod_of_nonneg i (by (first|lia|omega))];exact q)
theorem VS:OpR X (binaryOp .Pow) (rI LI λi j=>.int (i^j.toNat)):=opI λ_ _ _ _ _ _ _ hc q=>pow_int_small hc.1 hc.2.1 hc.2.2 q
theorem unI {f:Value->Sem Value}{g:Int->Int}
  (rule:∀(i:Int) (t:Tok) (s:Shared) (Q:Value->Shared->Prop) (E:Value->Shared->Prop),Q (.int (g i) s.toks) {s with toks:=s.toks+1}->wpAny (model X.prog X.w) X.A (f (.int i t)) Q E s):
  UnR X f (rU λi=>.int (g i)):=by
 intro pins s σ H x v Q I rx h
 obtain⟨i,rfl,q⟩:=h
 obtain⟨t,rfl⟩:=rx
 exact rule i t s _ _ ⟨.int (g i),H,I.tok _,⟨_,rfl⟩,q⟩
theorem Qs:UnR X (unaryOp .USub) (rU λi=>.int (-i)):=unI λ_ _ _ _ _ q=>neg_int q
end
noncomputable def IX:V->V->Bool
 | .non, .non=>true | .non, .int _=>true | .int _, .non=>true | .non, .bl _=>true | .bl _, .non=>true | .non, .str _=>true | .str _, .non=>true
 | .int _, .int _=>true | .bl _, .bl _=>true | .str _, .str _=>true | .byt _, .byt _=>true
 | .int _, .str _=>true | .str _, .int _=>true | .bl _, .str _=>true | .str _, .bl _=>true
 |_,_=>false
noncomputable def rEq:R2:=λx y H Q=>IX x y=true/\Q (.bl (decide (x=y))) H
noncomputable def rNe:R2:=λx y H Q=>IX x y=true/\Q (.bl (!decide (x=y))) H
theorem Ft {i j:Int}:decide (V.int i=V.int j)=(i==j):=by
 rw[Bool.eq_iff_iff]
 simp
theorem BI {i j:Bool}:decide (V.bl i=V.bl j)=(i==j):=by
 rw[Bool.eq_iff_iff]
 simp
theorem FG {i j:Str}:decide (V.str i=V.str j)=(i==j):=by
 rw[Bool.eq_iff_iff]
 simp
theorem Dz {i j:Array UInt8}:decide (V.byt i=V.byt j)=(i.toList==j.toList):=by
 rw[Bool.eq_iff_iff]
 cases i
 cases j
 simp
section
variable {X:Cx}{a b c:Expr}{ta tb tc:TE}{pos:Pos}
theorem X4 {pins:List (Addr×Obj)}{σ:St}{H:Hp}{s:Shared}{Q:VK}{k k':Bool}(I:Inv X pins σ H s)(q:Q (.bl k) H)(e:k=k'):EP X pins σ Q (.bool k') s:=by
 subst e
 exact⟨.bl k,H,I,rfl,q⟩
theorem ZH:OpR X (compareOp .Eq) rEq:=by
 intro pins s σ H x y v u Q I rx ry h
 obtain⟨hs,q⟩:=h
 cases x with
 |non=>
  cases rx
  cases y with
  |non=>cases ry;exact PySem.EqNone.eq_none_none (X4 I q (by simp))
  |bl j=>cases ry;exact PySem.EqNone.eq_none_bool (X4 I q (by simp))
  |int j=>obtain⟨t',rfl⟩:=ry;exact PySem.EqNone.eq_none_int (X4 I q (by simp))
  |str j=>obtain⟨t',rfl⟩:=ry;exact PySem.EqNone.eq_none_str (X4 I q (by simp))
  |_=>exact absurd (show false=true from hs) Bool.false_ne_true
 |bl i=>
  cases rx
  cases y with
  |non=>cases ry;exact PySem.EqNone.eq_bool_none (X4 I q (by simp))
  |bl j=>cases ry;exact eq_bool (X4 I q BI)
  |str j=>obtain⟨t',rfl⟩:=ry;exact PySem.EqMixed.eq_bool_str (X4 I q (by simp))
  |_=>exact absurd (show false=true from hs) Bool.false_ne_true
 |int i=>
  obtain⟨t,rfl⟩:=rx
  cases y with
  |non=>cases ry;exact PySem.EqNone.eq_int_none (X4 I q (by simp))
  |int j=>obtain⟨t',rfl⟩:=ry;exact eq_int (X4 I q Ft)
  |str j=>obtain⟨t',rfl⟩:=ry;exact PySem.EqMixed.eq_int_str (X4 I q (by simp))
  |_=>exact absurd (show false=true from hs) Bool.false_ne_true
 |str i=>
  obtain⟨t,rfl⟩:=rx
  cases y with
  |non=>cases ry;exact PySem.EqNone.eq_str_none (X4 I q (by simp))
  |bl j=>cases ry;exact PySem.EqMixed.eq_str_bool (X4 I q (by simp))
  |int j=>obtain⟨t',rfl⟩:=ry;exact PySem.EqMixed.eq_str_int (X4 I q (by simp))
  |str j=>obtain⟨t',rfl⟩:=ry;exact eq_str (X4 I q FG)
  |_=>exact absurd (show false=true from hs) Bool.false_ne_true
 |byt i=>
  obtain⟨t,rfl⟩:=rx
  cases y with
  |byt j=>obtain⟨t',rfl⟩:=ry;exact PySem.W.eq_bytes (X4 I q Dz)
  |_=>exact absurd (show false=true from hs) Bool.false_ne_true
 |_=>cases y<;> exact absurd (show false=true from hs) Bool.false_ne_true
theorem Cj:OpR X (compareOp .NotEq) rNe:=by
 intro pins s σ H x y v u Q I rx ry h
 obtain⟨hs,q⟩:=h
 cases x with
 |non=>
  cases rx
  cases y with
  |non=>cases ry;exact PySem.EqNone.ne_none_none (X4 I q (by simp))
  |bl j=>cases ry;exact PySem.EqNone.ne_none_bool (X4 I q (by simp))
  |int j=>obtain⟨t',rfl⟩:=ry;exact PySem.EqNone.ne_none_int (X4 I q (by simp))
  |str j=>obtain⟨t',rfl⟩:=ry;exact PySem.EqNone.ne_none_str (X4 I q (by simp))
  |_=>exact absurd (show false=true from hs) Bool.false_ne_true
 |bl i=>
  cases rx
  cases y with
  |non=>cases ry;exact PySem.EqNone.ne_bool_none (X4 I q (by simp))
  |bl j=>cases ry;exact ne_bool (X4 I q (congrArg not BI))
  |str j=>obtain⟨t',rfl⟩:=ry;exact PySem.EqMixed.ne_bool_str (X4 I q (by simp))
  |_=>exact absurd (show false=true from hs) Bool.false_ne_true
 |int i=>
  obtain⟨t,rfl⟩:=rx
  cases y with
  |non=>cases ry;exact PySem.EqNone.ne_int_none (X4 I q (by simp))
  |int j=>obtain⟨t',rfl⟩:=ry;exact ne_int (X4 I q (congrArg not Ft))
  |str j=>obtain⟨t',rfl⟩:=ry;exact PySem.EqMixed.ne_int_str (X4 I q (by simp))
  |_=>exact absurd (show false=true from hs) Bool.false_ne_true
 |str i=>
  obtain⟨t,rfl⟩:=rx
  cases y with
  |non=>cases ry;exact PySem.EqNone.ne_str_none (X4 I q (by simp))
  |bl j=>cases ry;exact PySem.EqMixed.ne_str_bool (X4 I q (by simp))
  |int j=>obtain⟨t',rfl⟩:=ry;exact PySem.EqMixed.ne_str_int (X4 I q (by simp))
  |str j=>obtain⟨t',rfl⟩:=ry;exact ne_str (X4 I q (congrArg not FG))
  |_=>exact absurd (show false=true from hs) Bool.false_ne_true
 |byt i=>
  obtain⟨t,rfl⟩:=rx
  cases y with
  |byt j=>obtain⟨t',rfl⟩:=ry;exact PySem.W.ne_bytes (X4 I q (congrArg not Dz))
  |_=>exact absurd (show false=true from hs) Bool.false_ne_true
 |_=>cases y<;> exact absurd (show false=true from hs) Bool.false_ne_true
theorem GW:OpR X (compareOp .Lt) (rI0 λi j=>.bl (decide (i<j))):=Ll λ_ _ _ _ _ _ _ q=>lt_int q
theorem Ic:OpR X (compareOp .LtE) (rI0 λi j=>.bl (decide (i<=j))):=Ll λ_ _ _ _ _ _ _ q=>le_int q
theorem UK:OpR X (compareOp .Gt) (rI0 λi j=>.bl (decide (j<i))):=Ll λ_ _ _ _ _ _ _ q=>gt_int q
theorem VM:OpR X (compareOp .Is) (λx y H Q=>y= .non/\Q (.bl (decide (x= .non))) H):=by
 intro pins s σ H x y v u Q I rx ry h
 obtain⟨rfl,q⟩:=h
 cases ry
 refine is_none_gen (X4 I q ?_)
 cases x<;> first
  | (cases rx;rfl)
  | (obtain⟨t,rfl⟩:=rx;rfl)
theorem Fx:OpR X (compareOp .IsNot) (λx y H Q=>y= .non/\Q (.bl (!decide (x= .non))) H):=by
 intro pins s σ H x y v u Q I rx ry h
 obtain⟨rfl,q⟩:=h
 cases ry
 refine isnot_none_gen (X4 I q ?_)
 cases x<;> first
  | (cases rx;rfl)
  | (obtain⟨t,rfl⟩:=rx;rfl)
theorem OpR.or {f:Value->Value->Sem Value}{r r':R2}(h:OpR X f r)(h':OpR X f r'):OpR X f (λx y H Q=>r x y H Q∨r' x y H Q):=by
 intro pins s σ H x y v u Q I rx ry q
 rcases q with q |q
 ·exact h pins s σ H x y v u Q I rx ry q
 ·exact h' pins s σ H x y v u Q I rx ry q
theorem XE (b:Expr){op:CmpOp}(h:op≠ .In:=by decide)(h2:op≠ .NotIn:=by decide):behindInMarks op b=false:=by
 have e1:(op==CmpOp.In)=false:=by cases op<;> first |rfl |exact absurd rfl h
 have e2:(op==CmpOp.NotIn)=false:=by cases op<;> first |rfl |exact absurd rfl h2
 cases b<;> simp[behindInMarks,e1,e2]
theorem Jj {op:CmpOp}{r:R2}(ho:OpR X (compareOp op) r)(ha:PE X a ta)(hb:PE X b tb)(hm:behindInMarks op b=false):PE X (.Compare a [op] [b] pos) (tOp r ta tb):=by
 intro pins s σ H Q I h
 exact wpAny_Compare1 (Li ha hb I h λv u s2 x y H2 I2 rx ry q=>ho pins s2 σ H2 x y v u Q I2 rx ry q) hm
noncomputable def IA (t:TE):TT:=λσ H Q=>t σ H λx H'=>∃ k,x= .bl k/\Q k H'
theorem Xp {op:CmpOp}{r:R2}(ho:OpR X (compareOp op) r)(ha:PE X a ta)(hb:PE X b tb)(hm:behindInMarks op b=false):PT X (.Compare a [op] [b] pos) (IA (tOp r ta tb)):=by
 intro pins s σ H Q I h
 refine wpAny_isTrue_Compare1 (thn (ha pins s σ H _ I h) λv s1 ⟨x,H1,I1,r1,q1⟩=>thn (hb pins s1 σ H1 _ I1 q1) λu s2 ⟨y,H2,I2,r2,q2⟩=>
  thn (ho pins s2 σ H2 x y v u _ I2 r1 r2 q2) λc s3 ⟨z,H3,I3,r3,k,e,q3⟩=>?_) hm
 subst e
 cases r3
 exact wpAny_truthy_bool ⟨H3,I3,q3⟩
theorem Gc:(sizeLine:Nat)<2^63:=by rw[sizeLine_eq];decide
theorem CP {x:V}{us:List Value}(r:Yg [x] us):∃u,us=[u]/\X8 x u:=by
 cases r with
 |cons r1 r2=>cases r2;exact⟨_,rfl,r1⟩
theorem Ir {x y:V}{us:List Value}(r:Yg [x,y] us):∃u w',us=[u,w']/\X8 x u/\X8 y w':=by
 cases r with
 |cons r1 r2=>
  cases r2 with
  |cons r3 r4=>cases r4;exact⟨_,_,rfl,r1,r3⟩
theorem Gs:Qj X (.builtin "abs") (λxs H Q=>∃ i,xs=[.int i]/\Q (.int (if i<0 then-i else i)) H):=by
 intro pins s σ H xs us Q I r h
 obtain⟨i,rfl,q⟩:=h
 obtain⟨u,rfl,t,rfl⟩:=CP r
 exact call_abs_int λu tk=>⟨.int (if i<0 then-i else i),H,I.tok _,⟨_,rfl⟩,q⟩
theorem DA (hc:X.calm=true):Qj X (.builtin "max") (λxs H Q=>∃ i j,xs=[.int i, .int j]/\Q (.int (if j > i then j else i)) H):=by
 intro pins s σ H xs us Q I r h
 obtain⟨i,j,rfl,q⟩:=h
 obtain⟨u,w',rfl,⟨t,rfl⟩,⟨t',rfl⟩⟩:=Ir r
 refine max_two_ints (I.ok.hd hc) λh' tk k=>⟨_,H,I.kept k,?_,q⟩
 by_cases hj:j > i
 ·rw[if_pos hj,if_pos hj];exact⟨_,rfl⟩
 ·rw[if_neg hj,if_neg hj];exact⟨_,rfl⟩
theorem DI (hc:X.calm=true):Qj X (.builtin "min") (λxs H Q=>∃ i j,xs=[.int i, .int j]/\Q (.int (if j<i then j else i)) H):=by
 intro pins s σ H xs us Q I r h
 obtain⟨i,j,rfl,q⟩:=h
 obtain⟨u,w',rfl,⟨t,rfl⟩,⟨t',rfl⟩⟩:=Ir r
 refine min_two_ints (I.ok.hd hc) λh' tk k=>⟨_,H,I.kept k,?_,q⟩
 by_cases hj:j<i
 ·rw[if_pos hj,if_pos hj];exact⟨_,rfl⟩
 ·rw[if_neg hj,if_neg hj];exact⟨_,rfl⟩
end
structure ObjM (h:Heap)(x dx C:Addr)(mA:Str->Option Value):Prop where
 obj:h.get? x=some (PySem.W.instObj C dx)
 ns:h.Ns1 dx mA
 ne:dx≠x
theorem Fq {h:Heap}{dx:Addr}{mA:Str->Option Value}(n:h.Ns1 dx mA):∃od,h.get? dx=some od/\∀name,PySem.W.lookIn name od=some (mA name):=by
 obtain⟨o,es,ep,ho,hd,hk,_,hm⟩:=n
 refine⟨o,ho,λname=>?_⟩
 have e:=hm name
 unfold nsFind findBy at e
 rw[←Array.find?_toList] at e
 unfold PySem.W.lookIn
 rw[hd]
 dsimp only
 split
 ·rename_i y q
  rw[q] at e
  exact congrArg some e
 ·rename_i q
  rw[q] at e
  have a:es.toList.any (·.refKey)=false:=by
   rw[List.any_eq_false]
   intro y hy
   obtain⟨z,t,hkey⟩:=hk y (Array.mem_toList_iff.mp hy)
   simp[DictEntry.refKey,hkey]
  have a':¬es.toList.any (·.refKey)=true:=by rw[a];exact Bool.false_ne_true
  rw[if_neg a']
  exact congrArg some e
theorem ObjM.look {h:Heap}{x dx C:Addr}{mA:Str->Option Value}(I:ObjM h x dx C mA):∃od,PySem.W.InstAt h x (PySem.W.instObj C dx) C (some od)/\∀name,PySem.W.lookIn name od=some (mA name):=
 let ⟨od,ho,hl⟩:=Fq I.ns
 ⟨od,⟨I.obj,rfl,rfl,ho⟩,hl⟩
section
variable {prog:Program}{w:World}{A:Around}{E:Value->Shared->Prop}{s:Shared}{K:PySem.W.Frag}{x dx C f:Addr}{mA:Str->Option Value}{name:Str}{v:Value}
end
theorem KC.some_of {v:V}{o:Option Value}(r:KC (some v) o):∃u,o=some u/\X8 v u:=by
 cases o with
 |none=>exact(show False from r).elim
 |some u=>exact⟨u,rfl,r⟩
section
variable {P:Program}{w:World}{H H':Hp}{h h':Heap}{a C dx:Addr}{fs fs':List (Str×V)}
theorem ER (hok:HOk P w H h)(e:H a=some (.ins C dx fs)):∃mA,ObjM h a dx C mA/\(∀f,KC (fs.lookup f) (mA f))/\PySem.Within mA (fs.map (·.1))/\fs.length<=1000/\H dx=some (.own a):=by
 obtain⟨d,z,ne,ob,mA,n,r,q⟩:=(show YB P w H h a (.ins C dx fs) from hok a _ e)
 exact⟨mA,⟨ob,n,ne⟩,r,q,z,d⟩
end
structure Cls (K:PySem.W.Frag)(C:Addr):Prop where
 pg:PySem.W.plainGet K C Str.empty=true
 hd:PySem.W.hasDictIn K C=true
 po:PySem.W.plainOver K C=true
 sa:PySem.W.findIn K (.ref C) "__setattr__" =some (some (.builtin "object.__setattr__"))
theorem Cls.get {K:PySem.W.Frag}{C:Addr}(c:Cls K C)(f:Str):PySem.W.plainGet K C f=true:=c.pg
section
variable {X:Cx}{pins:List (Addr×Obj)}{σ:St}{H:Hp}{s:Shared}{a C dx:Addr}{fs:List (Str×V)}{f:Str}{v:V}{A:Around}{E:Value->Shared->Prop}
theorem Inv.made (I:Inv X pins σ H s):Inv X pins σ (upd (upd H s.heap.objs.size (.own (s.heap.objs.size+1))) (s.heap.objs.size+1) (.ins C s.heap.objs.size []))
  {s with heap:=(s.heap.push PySem.W.emptyDict).push (PySem.W.instObj C s.heap.objs.size)}:=by
 have e1:(s.heap.push PySem.W.emptyDict).get? s.heap.objs.size=some PySem.W.emptyDict:=Heap.get?_push_size s.heap rfl
 have e2:((s.heap.push PySem.W.emptyDict).push (PySem.W.instObj C s.heap.objs.size)).get? (s.heap.objs.size+1)=some (PySem.W.instObj C s.heap.objs.size):=by
  have:=Heap.get?_push_size (s.heap.push PySem.W.emptyDict) (o:=PySem.W.instObj C s.heap.objs.size) rfl
  rwa [Heap.size_push] at this
 have e3:(s.heap.push PySem.W.emptyDict).Ns s.heap.objs.size (λ_=>none):=⟨PySem.W.emptyDict, #[],_,e1,rfl,(λe he=>absurd he (by simp)),λ_=>rfl⟩
 have I1:=I.laid (a:=s.heap.objs.size) (o:=.own (s.heap.objs.size+1)) (h':=s.heap.push PySem.W.emptyDict) (t':=s.toks) (λb u q=>Heap.get?_push_of_some _ q) (Nat.le_refl _) ⟨_,e1⟩
 refine I1.laid (a:=s.heap.objs.size+1) (o:=.ins C s.heap.objs.size []) (t':=s.toks) (λb u q=>Heap.get?_push_of_some _ q) (Nat.le_of_eq (Heap.size_push _ _)) ?_
 have ne:s.heap.objs.size≠s.heap.objs.size+1:=Nat.ne_of_lt (Nat.lt_succ_self _)
 refine⟨by rw[Xv ne,XL],Nat.zero_le _,ne,e2,λ_=>none,(Heap.Ns1.of_empty e3).at λo q=>Heap.get?_push_of_some _ q,λ_=>True.intro,λy hy=>absurd rfl hy⟩
theorem ED {prog:Program}{w:World}{env:Env}{e:Expr}{f:Str}{pos:Pos}{s:Shared}{Q:Value->Shared->Prop}(hb:attributeBase e f env (eval e env)=eval e env)
  (h:wpAny (model prog w) A (eval e env) (λo s₁=>wpAny (model prog w) A (getAttr o f true) Q E s₁) E s):wpAny (model prog w) A (eval (.Attribute e f pos) env) Q E s:=
 Attribute_any_ h (by rw[arm_eval_Attribute,hb])
end
section
variable {X:Cx}{o e value:Expr}{f:Str}{pos pos' tpos:Pos}{ta tv:TE}
end
section
variable {X:Cx}{pins:List (Addr×Obj)}{σ:St}{H:Hp}{s:Shared}{A:Around}{E:Value->Shared->Prop}{Q:Value->Shared->Prop}{c:Value}{b:Bool}
inductive TyOf (K:PySem.W.Frag)(H:Hp):V->Value->Prop where
 |non:TyOf K H .non (.type "NoneType")
 |bl (x:Bool):TyOf K H (.bl x) (.type "bool")
 |int (i:Int):TyOf K H (.int i) (.type "int")
 |str (x:Str):TyOf K H (.str x) (.type "str")
 |flt (x:UInt64):TyOf K H (.flt x) (.type "float")
 |lst {a:Addr}{xs:List V} (e:H a=some (.lst xs)):TyOf K H (.ref a) (.type "list")
 |frz {a:Addr}{o:Obj}{xs:List V} (e:H a=some (.frz o (.lst xs))):TyOf K H (.ref a) (.type "list")
 |tup {a:Addr}{xs:List V} (e:H a=some (.tup xs)):TyOf K H (.ref a) (.type "tuple")
 |dK {a:Addr}{kvs:List (Key×V)} (e:H a=some (.dK kvs)):TyOf K H (.ref a) (.type "dict")
 |dT {a:Addr}{kvs:List (List Key×V)} (e:H a=some (.dT kvs)):TyOf K H (.ref a) (.type "dict")
 |ins {a C dx:Addr}{fs:List (Str×V)} (e:H a=some (.ins C dx fs)) (cl:Cls K C) (ha:PySem.W.findIn K (.ref C) "__class__" =some (some (.builtin "object.__class__")))
   (hn:PySem.W.specialIn K (.builtin "object.__class__") "__get__" =some (some (.builtin "getset_descriptor.__get__"))) (htk:PySem.W.takesIn K (.builtin "object.__class__")=some true)
   (hm:PySem.W.mroIn K C (.type "object")=some true):TyOf K H (.ref a) (.ref C)
theorem FY {x:V}{u t:Value}(I:Inv X pins σ H s)(rx:X8 x u)(ty:TyOf X.K H x t)(e:PySem.W.kitOne X.K t c=some b)(h:∀tk,Q (.bool b) {s with toks:=tk}):
  wpAny (model X.prog X.w) A (call (.builtin "isinstance") [u,c]) Q E s:=by
 cases ty with
 |non=>cases(show u=Value.none from rx);exact PySem.W.kia_one PySem.W.kitx_none I.kIn True.intro e (λz=>nomatch z) h
 |bl y=>cases(show u=Value.bool y from rx);exact PySem.W.kia_one PySem.W.kitx_bool I.kIn True.intro e (λz=>nomatch z) h
 |int i=>obtain⟨t,q⟩:=(show ∃t,u=Value.int i t from rx);cases q;exact PySem.W.kia_one PySem.W.kitx_int I.kIn True.intro e (λz=>nomatch z) h
 |str y=>obtain⟨t,q⟩:=(show ∃t,u=Value.str y t from rx);cases q;exact PySem.W.kia_one PySem.W.kitx_str I.kIn True.intro e (λz=>nomatch z) h
 |flt y=>obtain⟨t,q⟩:=(show ∃t,u=Value.float y t from rx);cases q;exact PySem.W.kia_one PySem.W.kitx_float I.kIn True.intro e (λz=>nomatch z) h
 | @lst a xs ea=>
  cases(show u=Value.ref a from rx)
  obtain⟨_,_,n,_,h1⟩:=(show YB X.prog X.w H s.heap a (.lst xs) from I.hok a _ ea)
  exact PySem.W.kia_one PySem.W.kitx_list I.kIn ⟨_,h1,rfl⟩ e (λz=>nomatch z) h
 | @frz a ob xs ea=>
  cases(show u=Value.ref a from rx)
  obtain⟨_,_,_,n,_,h1⟩:=(show YB X.prog X.w H s.heap a (.frz ob (.lst xs)) from I.hok a _ ea)
  exact PySem.W.kia_one PySem.W.kitx_list I.kIn ⟨_,h1,rfl⟩ e (λz=>nomatch z) h
 | @tup a xs ea=>
  cases(show u=Value.ref a from rx)
  obtain⟨_,_,_,p⟩:=(show YB X.prog X.w H s.heap a (.tup xs) from I.hok a _ ea)
  obtain⟨o,h1,h2,_⟩:=p
  exact PySem.W.kia_one PySem.W.kitx_tuple I.kIn ⟨o,h1,h2.1⟩ e (λz=>nomatch z) h
 | @dK a kvs ea=>
  cases(show u=Value.ref a from rx)
  obtain⟨_,_,vs,_,p⟩:=(show YB X.prog X.w H s.heap a (.dK kvs) from I.hok a _ ea)
  obtain⟨o,es,ep,h1,h2,_⟩:=p
  exact PySem.W.kia_one PySem.W.kitx_dict I.kIn ⟨o,h1,h2.1⟩ e (λz=>nomatch z) h
 | @dT a kvs ea=>
  cases(show u=Value.ref a from rx)
  obtain⟨_,_,xs,_,o,es,ep,h1,h2,_⟩:=(show YB X.prog X.w H s.heap a (.dT kvs) from I.hok a _ ea)
  exact PySem.W.kia_one PySem.W.kitx_dict I.kIn ⟨o,h1,h2.1⟩ e (λz=>nomatch z) h
 | @ins a C dx fs ea cl ha hn htk hm=>
  cases(show u=Value.ref a from rx)
  obtain⟨mA,O,_⟩:=ER I.hok ea
  obtain⟨od,J,_⟩:=O.look
  exact PySem.W.kia_one (PySem.W.kitx_own (cl.get _) cl.hd ha hn htk hm) I.kIn J e (λz=>nomatch z) h
end
structure Room (k:Nat)(A:Around):Prop where
 hd:A.handled=none
 dp:A.depth+3*k+5<recursionLimit
 un:A.units+16*k+200<cLine
theorem Room.mono {j k:Nat}{A:Around}(r:Room k A)(h:j<=k):Room j A:=⟨r.hd,by have:=r.dp;(first|lia|omega),by have:=r.un;(first|lia|omega)⟩
theorem Room.deeper {k:Nat}{A:Around}(r:Room (k+1) A)(env:Env):Room k (A.deeper env):=
 ⟨r.hd,by have:=r.dp;show A.depth+1+3*k+5<_;(first|lia|omega),by have:=r.un;show A.units+3+16*k+200<_;(first|lia|omega)⟩
theorem Room.in1 {k:Nat}{A:Around}(r:Room (k+1) A):Room k A.in1:=
 ⟨r.hd,by have:=r.dp;show A.depth+3*k+5<_;(first|lia|omega),by have:=r.un;show A.units+1+16*k+200<_;(first|lia|omega)⟩
theorem GX {A:Around}{C:Addr}{us:List Value}{kw:List (Str×Value)}:(A.under (.builtin "type.__call__" ⟨.ref C::us,kw⟩)).depth=A.depth+1:=by
 first |rfl |simp[Around.under,Code.weight,Code.isCreation,Code.isGuard,Code.isCaller,Code.frames,Code.isFrame,guardIds]
theorem G1 {A:Around}{C:Addr}{us:List Value}{kw:List (Str×Value)}:(A.under (.builtin "type.__call__" ⟨.ref C::us,kw⟩)).units=A.units+1:=by
 first |rfl |simp[Around.under,Code.cUnits,Code.frames,Code.isFrame]
theorem Room.make {k:Nat}{A:Around}(r:Room (k+1) A)(C:Addr)(us:List Value)(kw:List (Str×Value)):Room k (A.under (.builtin "type.__call__" ⟨.ref C::us,kw⟩)):=
 ⟨r.hd,by have:=r.dp;rw[GX];(first|lia|omega),by have:=r.un;rw[G1];(first|lia|omega)⟩
theorem Room.depth {k:Nat}{A:Around}(r:Room k A):A.depth<recursionLimit:=by have:=r.dp;(first|lia|omega)
theorem Room.units {k:Nat}{A:Around}(r:Room k A):A.units+64<cLine:=by have:=r.un;(first|lia|omega)
noncomputable def ZQ:TA:=λ_ H Q=>Q [] H
noncomputable def XT (ta:TE)(tr:TA):TA:=λσ H Q=>ta σ H λx H1=>tr σ H1 λxs H2=>Q (x::xs) H2
section
variable {X:Cx}{e:Expr}{es:List Expr}{te:TE}{t:TA}{pos:Pos}
theorem Xh:PA X [] ZQ:=λ_ _ _ _ H Q I h=>Calls.spliced_nil ⟨[],H,I, .nil,h⟩
theorem Xd (ha:PE X e te)(hr:PA X es t)(hs:starEach (e::es) X.env=(false,eval e X.env)::starEach es X.env:=by rfl):PA X (e::es) (XT te t):=by
 intro pos pins s σ H Q I h
 rw[hs]
 show wpAny _ _ (spliced ((false,eval e X.env)::backTo pos (starEach es X.env))) _ _ s
 refine Calls.spliced_cons (thn (ha pins s σ H _ I h) λu s1 r9=>?_)
 obtain⟨x,H1,I1,r1,q1⟩:=r9
 exact thn (hr pos pins s1 σ H1 _ I1 q1) λus s2 r9=>by obtain⟨xs,H2,I2,r2,q2⟩:=r9;exact⟨x::xs,H2,I2, .cons r1 r2,q2⟩
noncomputable def IM (t:TA):TE:=λσ H Q=>t σ H λxs H1=>xs.length<=sizeLine/\∀p,H1 p=none->Q (.ref p) (upd H1 p (.tup xs))
noncomputable def IQ (t:TA):TE:=λσ H Q=>t σ H λxs H1=>xs.length<=sizeLine/\∀p,H1 p=none->Q (.ref p) (upd H1 p (.lst xs))
theorem X7 {x1}(h:PA X es t):PE X (.Tuple es x1 pos) (IM t):=by
 intro pins s σ H Q I hq
 refine wpAny_Tuple_spliced (thn (h pos pins s σ H _ I hq) λus s1 ⟨xs,H1,I1,r,z,q⟩=>⟨by rw[←r.length];exact z,?_⟩)
 have hf:H1 s1.heap.objs.size=none:=I1.hok.fresh (Nat.le_refl _)
 refine⟨.ref s1.heap.objs.size,upd H1 s1.heap.objs.size (.tup xs),I1.laid (t':=s1.toks) (λb u e=>Heap.get?_push_of_some _ e) (Nat.le_refl _) ?_,rfl,q _ hf⟩
 exact⟨z,us,r,⟨_,Heap.get?_push_size _ rfl,⟨rfl,rfl⟩,_,rfl⟩⟩
theorem Yn (h:PA X es t):PE X (.List es pos) (IQ t):=by
 intro pins s σ H Q I hq
 refine wpAny_List_spliced (thn (h pos pins s σ H _ I hq) λus s1 ⟨xs,H1,I1,r,z,q⟩=>⟨by rw[←r.length];exact z,?_⟩)
 have hf:H1 s1.heap.objs.size=none:=I1.hok.fresh (Nat.le_refl _)
 refine⟨.ref s1.heap.objs.size,upd H1 s1.heap.objs.size (.lst xs),I1.laid (t':=s1.toks) (λb u e=>Heap.get?_push_of_some _ e) (Nat.le_refl _) ?_,rfl,q _ hf⟩
 exact⟨z,us,0,r,Heap.get?_push_size _ rfl⟩
end
noncomputable abbrev Sp:=List V->Hp->VK->XK->Prop
noncomputable abbrev CXT:=List Env->Hp->Shared->XK->Value->Shared->Prop
structure Env0 (P:Program)(w:World)(K:PySem.W.Frag)(mg:Str->Option Value)(base:Heap)(A:Around)(outer:List Env)(s:Shared)(H:Hp):Prop where
 frames:A.frames=some outer
 mod:Mod K mg base
 bs:∀b o,base.get? b=some o->s.heap.get? b=some o/\H b=none
 bsz:base.objs.size<=s.heap.objs.size
 funs:s.heap.FunFrames base outer
 frf:∀b∈frs outer,H b=none
 hok:HOk P w H s.heap
 bare:AllBare s.gens
noncomputable def CE (outer:List Env)(P:Program)(w:World)(H:Hp)(s:Shared)(Q:VK)(u:Value)(s':Shared):Prop:=
 ∃v H',s'.os=s.os/\AllBare s'.gens/\Un (frs outer) [] H H' s.heap s'.heap/\HOk P w H' s'.heap/\X8 v u/\Q v H'
noncomputable def CR (CX:CXT)(outer:List Env)(P:Program)(w:World)(H:Hp)(s:Shared)(Q:VK)(E:XK)(r:Result)(s':Shared):Prop:=
 match r with
 | .ok (.ret u)=>CE outer P w H s Q u s'
 | .ok _=>False
 | .error e=>CX outer H s E e s'
structure FnOk (P:Program)(w:World)(K:PySem.W.Frag)(mg:Str->Option Value)(base:Heap)(CX:CXT)(k:Nat)(f:Addr)(fd:FuncData)(ps:List Str)(sp:Sp):Prop where
 len:∀vs H Q E,sp vs H Q E->vs.length=ps.length
 run:∀(A:Around) (outer:List Env) (s:Shared) (H:Hp) (args:Args) (us:List Value) (vs:List V) (Q:VK) (E:XK),Room k A->Env0 P w K mg base A outer s H->BindsTo s fd args (ps.zip us)->Yg vs us->sp vs H Q E->
  codeAny (model P w) A (.call (.ref f) args) (CR CX outer P w H s Q E) s
theorem FnOk.mono {P:Program}{w:World}{K:PySem.W.Frag}{mg:Str->Option Value}{base:Heap}{CX:CXT}{j k:Nat}{f:Addr}{fd:FuncData}{ps:List Str}{sp:Sp}(F:FnOk P w K mg base CX j f fd ps sp)(h:j<=k):
  FnOk P w K mg base CX k f fd ps sp:=⟨F.len,λA outer s H args us vs Q E hr=>F.run A outer s H args us vs Q E (hr.mono h)⟩
theorem FnOk.imp {P:Program}{w:World}{K:PySem.W.Frag}{mg:Str->Option Value}{base:Heap}{CX:CXT}{k:Nat}{f:Addr}{fd:FuncData}{ps:List Str}{sp sp':Sp}(F:FnOk P w K mg base CX k f fd ps sp)
  (h:∀vs H Q E,sp' vs H Q E->sp vs H Q E):FnOk P w K mg base CX k f fd ps sp':=
 ⟨λvs H Q E q=>F.len vs H Q E (h _ _ _ _ q),λA outer s H args us vs Q E hr he hb hv hs=>F.run A outer s H args us vs Q E hr he hb hv (h _ _ _ _ hs)⟩
theorem Env0.make {P:Program}{w:World}{K:PySem.W.Frag}{mg:Str->Option Value}{base:Heap}{A:Around}{outer:List Env}{s:Shared}{H:Hp}(e:Env0 P w K mg base A outer s H)(C:Addr)(us:List Value)(kw:List (Str×Value)):
  Env0 P w K mg base (A.under (.builtin "type.__call__" ⟨.ref C::us,kw⟩)) outer s H:=⟨by first |exact e.frames | (simpa[Around.under,Code.envs,Code.isFrame,pushEnvs] using e.frames),e.mod,e.bs,e.bsz,e.funs,e.frf,e.hok,e.bare⟩
theorem Env0.in1 {P:Program}{w:World}{K:PySem.W.Frag}{mg:Str->Option Value}{base:Heap}{A:Around}{outer:List Env}{s:Shared}{H:Hp}(e:Env0 P w K mg base A outer s H):
  Env0 P w K mg base A.in1 outer s H:=⟨e.frames,e.mod,e.bs,e.bsz,e.funs,e.frf,e.hok,e.bare⟩
section
variable {X:Cx}{pins:List (Addr×Obj)}{σ:St}{H:Hp}{s s':Shared}
theorem Inv.env0 (I:Inv X pins σ H s):Env0 X.prog X.w X.K X.mg X.base X.A X.stack s H:=
 ⟨I.ok.frames,I.ok.mod,I.bs,Nat.le_trans I.ok.bsz I.sz,I.stack,I.stkFree,I.hok,I.bare⟩
theorem Inv.after {Q:VK}{u:Value}(I:Inv X pins σ H s)(h:CE X.stack X.prog X.w H s Q u s'):EP X pins σ Q u s':=by
 obtain⟨v,H',os,bare,un,hok,r,q⟩:=h
 obtain⟨hh,g,d,t,os'⟩:=s'
 obtain rfl:os'=s.os:=os
 exact⟨v,H',I.call (h':=hh) (g':=g) (d':=d) (t':=t) (ch:=[]) un hok bare (λb z=>absurd z (by simp)),r,q⟩
end
noncomputable def UW (sp:Sp)(dvs:List V)(E:XK)(t:TA):TE:=λσ H Q=>t σ H λvs H1=>sp (vs++dvs) H1 Q E
noncomputable def Vt (K:PySem.W.Frag)(fd:FuncData)(ps:List Str)(ds:List Value):Prop:=
 ∀(s:Shared) (us:List Value),K.In s.heap->(us++ds).length=ps.length->BindsTo s fd ⟨us,[]⟩ (ps.zip (us++ds))
theorem Vt.all {K:PySem.W.Frag}{fd:FuncData}{ps:List Str}(h:∀us:List Value,us.length=ps.length->bindArgs fd ⟨us,[]⟩=pure (ps.zip us)):Vt K fd ps []:=λs us _ hl=>by
 rw[List.append_nil] at hl⊢
 exact .of_eq (h us hl)
noncomputable def VV (CX:CXT)(X:Cx)(E:XK):Prop:=∀ (pins:List (Addr×Obj)) (σ:St) (H:Hp) (s:Shared) (e:Value) (s':Shared),Inv X pins σ H s->CX X.stack H s E e s'->X.xe e s'
section
variable {X:Cx}{CX:CXT}{k:Nat}{f C:Addr}{fd:FuncData}{ps:List Str}{sp:Sp}{dvs:List V}{ds:List Value}{E:XK}{x m:Str}{p pos apos:Pos}{e o:Expr}{es:List Expr}{ta:TE}{t:TA}
theorem Hu {pins:List (Addr×Obj)}{σ:St}{H:Hp}{s:Shared}{Q:VK}{us:List Value}{vs:List V}(F:FnOk X.prog X.w X.K X.mg X.base CX k f fd ps sp)(hr:Room k X.A)(hb:Vt X.K fd ps ds)(hd:Yg dvs ds)(hx:VV CX X E)
  (I:Inv X pins σ H s)(r:Yg vs us)(h:sp (vs++dvs) H Q E):wpAny (model X.prog X.w) X.A (call (.ref f) us) (EP X pins σ Q) X.xe s:=by
 have r2:Yg (vs++dvs) (us++ds):=r.append hd
 have hl:(us++ds).length=ps.length:=by rw[←r2.length];exact F.len _ _ _ _ h
 refine wpAny_call (codeAny_mono (F.run X.A X.stack s H ⟨us,[]⟩ (us++ds) (vs++dvs) Q E hr I.env0 (hb s us I.kIn hl) r2 h) λr s' hq=>?_)
 cases r with
 |error e=>exact hx pins σ H s e s' I hq
 |ok fl=>
  cases fl with
  |ret u=>exact I.after hq
  |next=>exact False.elim hq
  |brk=>exact False.elim hq
  |cont=>exact False.elim hq
theorem Fa (F:FnOk X.prog X.w X.K X.mg X.base CX k f fd ps sp)(hr:Room k X.A)(hg:Gl X x)(hm:X.mg x=some (.ref f))(hk:PySem.W.keepIn X.K (.ref f)=true)(hb:Vt X.K fd ps ds)(hd:Yg dvs ds)(hx:VV CX X E)
  (ha:PA X (e::es) t)(hdb:(x==("__debug__":Str))=false:=by decide)(he:starEach (e::es) X.env=(false,eval e X.env)::starEach es X.env:=by rfl)(hpl:(backTo pos (starEach es X.env)).any (·.1)=false:=by rfl):
  PE X (.Call (.Name x p) (e::es) [] pos) (UW sp dvs E t):=by
 intro pins s σ H Q I h
 refine wpAny_Call_Name_kw (JZ I hg hm ?_ hdb)
 refine PySem.W.callWith_K (h₀:=X.base) I.ok.mod.kin hk (thn (ha pos pins s σ H _ I h) λus s1 ⟨vs,H1,I1,r,q⟩=>⟨I1.kIn,?_⟩) he hpl
 exact Hu F hr hb hd hx I1 r q
end
section
variable {X:Cx}{CX:CXT}{k:Nat}{f C:Addr}{fd:FuncData}{ps ks:List Str}{sp:Sp}{E:XK}{x m:Str}{p pos apos kpos:Pos}{e o:Expr}{es:List Expr}{kws:List Keyword}{te ta:TE}{t tk:TA}{nm:Option Str}
variable {g:List Value->List Value->List Value}{gV:List V->List V->List V}
end
structure FnScope (N P:List Str)(sc:Scope):Prop where
 kind:sc.kind= .function
 co:sc.isCoroutine=false
 gen:sc.isGenerator=false
 nd:N.Nodup
 pre:N.take P.length=P
 par:∀x∈P,sc.names.lookup x=some .local∨sc.names.lookup x=some .cell
 nofree:∀y∈sc.names,y.2≠ .free
theorem U9 {kindOf:Str->Option NameKind}{x:Str}:∀{binds:List (Str×Value)}{m:Str->Option Value},(∀v,(x,v)∉binds)->bindL kindOf binds m x=m x
 | [],_,_=>rfl
 | (n,v)::r,m,h=>by
  unfold bindL
  rw[U9 λw hw=>h w (List.mem_cons_of_mem _ hw)]
  split
  ·have:x≠n:=by rintro rfl;exact h v List.mem_cons_self
   simp[this]
  ·rfl
theorem UY {kindOf:Str->Option NameKind}{x:Str}:∀{binds:List (Str×Value)}{m:Str->Option Value},(∀v,(x,v)∉binds)->bindC kindOf binds m x=m x
 | [],_,_=>rfl
 | (n,v)::r,m,h=>by
  unfold bindC
  rw[UY λw hw=>h w (List.mem_cons_of_mem _ hw)]
  split
  ·rfl
  ·have:x≠n:=by rintro rfl;exact h v List.mem_cons_self
   simp[this]
theorem UM {kindOf:Str->Option NameKind}{x:Str}{v:Value}:∀{P:List Str}{vs:List Value}{i:Nat}{m:Str->Option Value},P.Nodup->P[i]?=some x->vs[i]?=some v->kindOf x=some .local->
  bindL kindOf (P.zip vs) m x=some v
 | [],_,_,_,_,h,_,_=>by simp at h
 |_::_,[],_,_,_,_,h,_=>by simp at h
 |p::P,w::vs,0,m,nd,h1,h2,hk=>by
  simp at h1 h2;subst h1;subst h2
  show bindL kindOf ((p,w)::P.zip vs) m p=_
  unfold bindL
  rw[U9 λv hv=>(List.nodup_cons.mp nd).1 (List.of_mem_zip hv).1,if_pos hk]
  simp
 |p::P,w::vs,i+1,m,nd,h1,h2,hk=>by
  show bindL kindOf ((p,w)::P.zip vs) m x=_
  unfold bindL
  exact UM (i:=i) (List.nodup_cons.mp nd).2 (by simpa using h1) (by simpa using h2) hk
theorem U6 {kindOf:Str->Option NameKind}{x:Str}{v:Value}:∀{P:List Str}{vs:List Value}{i:Nat}{m:Str->Option Value},P.Nodup->P[i]?=some x->vs[i]?=some v->kindOf x≠some .local->
  bindC kindOf (P.zip vs) m x=some v
 | [],_,_,_,_,h,_,_=>by simp at h
 |_::_,[],_,_,_,_,h,_=>by simp at h
 |p::P,w::vs,0,m,nd,h1,h2,hk=>by
  simp at h1 h2;subst h1;subst h2
  show bindC kindOf ((p,w)::P.zip vs) m p=_
  unfold bindC
  rw[UY λv hv=>(List.nodup_cons.mp nd).1 (List.of_mem_zip hv).1,if_neg hk]
  simp
 |p::P,w::vs,i+1,m,nd,h1,h2,hk=>by
  show bindC kindOf ((p,w)::P.zip vs) m x=_
  unfold bindC
  exact U6 (i:=i) (List.nodup_cons.mp nd).2 (by simpa using h1) (by simpa using h2) hk
noncomputable def Vw (N:List Str)(vs:List V):St:=vs.map some++List.replicate (N.length-vs.length) none
noncomputable def G0 (CX:CXT)(P:Program)(w:World)(K:PySem.W.Frag)(mg:Str->Option Value)(base:Heap)(N:List Str)(qual:Str)(scope:Scope)(f:Addr)(cd:Value)(A:Around)(outer:List Env)(s:Shared)(H:Hp)(E:XK):Cx where
 prog:=P
 w:=w
 K:=K
 mg:=mg
 base:=base
 A:=A.deeper (envOfC qual scope s.heap.objs.size f cd)
 N:=N
 s₀:=s
 H₀:=H
 env:=envOfC qual scope s.heap.objs.size f cd
 outer:=outer
 stack:=envOfC qual scope s.heap.objs.size f cd::outer
 ex:=[]
 calm:=true
 fn:=λ_=>true
 pn:=[]
 xe:=λe s'=>wpAny (model P w) (A.deeper (envOfC qual scope s.heap.objs.size f cd)) (leaving (envOfC qual scope s.heap.objs.size f cd) e) (λ_ s''=>CX outer H s E e s'') (λe' s''=>CX outer H s E e' s'') s'
theorem Ga {sc:Scope}{n:Nat}{x:Str}(h:sc.names.lookup x=some .cell):∃c,(cellsFrom n sc.names []).lookup x=some c:=by
 have q:=PySem.W.cellsFrom_some sc.names n [] (.inl h)
 exact Option.isSome_iff_exists.mp q
theorem DW {CX:CXT}{P:Program}{w:World}{K:PySem.W.Frag}{mg:Str->Option Value}{base:Heap}{N ps:List Str}{qual:Str}{scope:Scope}{f:Addr}{cd:Value}{A:Around}{outer:List Env}{s s1:Shared}{H:Hp}{E:XK}{us:List Value}{vs:List V}
  (S:FnScope N ps scope)(hd:A.handled=none)(e0:Env0 P w K mg base A outer s H)(hl:vs.length=ps.length)(r:Yg vs us)
  (x:InCallC s s.heap.objs.size (bindL (envOfC qual scope s.heap.objs.size f cd).kindOf (ps.zip us) λ_=>none) (cellsFrom (s.heap.objs.size+1) scope.names []) (bindC (envOfC qual scope s.heap.objs.size f cd).kindOf (ps.zip us) λ_=>none) s1):
  Inv (G0 CX P w K mg base N qual scope f cd A outer s H E) [] (Vw N vs) H s1:=by
 have hpl:ps.length<=N.length:=by have:=congrArg List.length S.pre;rw[List.length_take] at this;(first|lia|omega)
 obtain⟨h1,tk,rfl,hk⟩:=x.done
 have noA:∀b:Addr,b∉(G0 CX P w K mg base N qual scope f cd A outer s H E).ex:=λb z=>absurd (show b∈([]:List Addr) from z) (by simp)
 refine⟨⟨e0.mod,S.kind,rfl,rfl,Nat.le_refl _,λy z c h1 h2=>?_,λy hy=>?_,λy c _ h=>?_,λ_=>hd,Around.frames_deeper e0.frames, .inr ⟨rfl,rfl⟩,λb z=>absurd z (noA b),e0.bs,e0.bsz,λb _ _=>noA b,λb z=>absurd z (noA b),e0.funs,e0.frf⟩,
  rfl,e0.bare,Un.kept hk,⟨_,x.toInCall.ns,λi y v h1 h2 h3=>?_⟩,λy c h=>⟨_,x.cell y c h⟩,e0.hok.fresh (Nat.le_refl _),λy c h=>?_,λp hp=>absurd (show p∈([]:List (Addr×Obj)) from hp) (by simp),e0.hok.kept hk,?_⟩
 ·exact name_of_addr x.apart (PySem.mem_of_lookup h1) (PySem.mem_of_lookup h2)
 ·have hy:scope.names.lookup y=some .cell∨scope.names.lookup y=some .free:=hy
  rcases hy with hy |hy
  ·exact Ga hy
  ·exact absurd rfl (S.nofree _ (PySem.mem_of_lookup hy))
 ·exact Nat.le_of_lt (x.above y c (PySem.mem_of_lookup h))
 ·have hi:i<vs.length:=by
   unfold Vw at h2
   by_cases hi:i<vs.length
   ·exact hi
   ·rw[List.getElem?_append_right (by simpa using hi)] at h2
    rw[List.getElem?_replicate] at h2
    split at h2<;> cases h2
  have ha:vs[i]?=some v:=by
   unfold Vw at h2
   rw[List.getElem?_append_left (by simpa using hi),List.getElem?_map] at h2
   cases e:vs[i]? with
   |none=>rw[e] at h2;cases h2
   |some a=>rw[e] at h2;cases h2;rfl
  obtain⟨u,hu,rv⟩:=r.get ha
  have hp:ps[i]?=some y:=by
   rw[←S.pre,List.getElem?_take_of_lt (by (first|lia|omega))];exact h1
  have ndP:ps.Nodup:=by rw[←S.pre];exact S.nd.sublist (List.take_sublist _ _)
  refine⟨u,rv,?_⟩
  rcases S.par y (List.mem_of_getElem? hp) with k |k
  ·exact .inl ⟨k,UM ndP hp hu k⟩
  ·obtain⟨c,e⟩:=Ga (n:=s.heap.objs.size+1) k
   refine .inr ⟨.inl k,c,e,?_⟩
   have q:=x.cell y c e
   rw[U6 ndP hp hu (by show scope.names.lookup y≠_;rw[k];decide)] at q
   exact q
 ·exact e0.hok.fresh (Nat.le_of_lt (x.above y c (PySem.mem_of_lookup h)))
 ·unfold Vw
  show _=N.length
  rw[List.length_append,List.length_map,List.length_replicate]
  (first|lia|omega)
theorem Ej {CX:CXT}{P:Program}{w:World}{K:PySem.W.Frag}{mg:Str->Option Value}{base:Heap}{k:Nat}{f:Addr}{name qual:Str}{params:Arguments}{body:List Stmt}{scope:Scope}{dV kV doc pm cdv ct oc:Value}{an od:Option Addr}
  {osl:Array (Option Value)}{N ps:List Str}{sp:Sp}(lk:K.lookup f=some ⟨oc,od, .func (PySem.W.fnOf name qual params body scope dV kV doc pm an cdv ct),osl⟩)(hcd:PySem.W.codeIn K cdv qual=true)(S:FnScope N ps scope)
  (len:∀vs H Q E,sp vs H Q E->vs.length=ps.length)
  (hbody:∀(A:Around) (outer:List Env) (s:Shared) (H:Hp) (vs:List V) (Q:VK) (E:XK),Room k (A.deeper (envOfC qual scope s.heap.objs.size f cdv))->sp vs H Q E->
   ∃t,PSs (G0 CX P w K mg base N qual scope f cdv A outer s H E) body t/\t {nx:=λ_ H'=>Q .non H',rt:=Q} (Vw N vs) H):
  FnOk P w K mg base CX (k+1) f (PySem.W.fnOf name qual params body scope dV kV doc pm an cdv ct) ps sp:=by
 refine⟨len,λA outer s H args us vs Q E hr e0 hb r hsp=>?_⟩
 have hl:=len _ _ _ _ hsp
 have KX:K.In s.heap:=e0.mod.kin.keeps λb o e=>(e0.bs b o e).1
 have lim:s.heap.NoLimit:=e0.mod.nolimit.keeps λb o e=>(e0.bs b o e).1
 have hkind:∀y∈ps.zip us,scope.names.lookup y.1=some .local∨(scope.names.lookup y.1=some .cell/\((cellsFrom (s.heap.objs.size+1) scope.names []).lookup y.1).isSome=true):=λ⟨n,v⟩ hy=>by
  rcases S.par n (List.of_mem_zip hy).1 with q |q
  ·exact .inl q
  ·exact .inr ⟨q,PySem.W.cellsFrom_some _ _ _ (.inl q)⟩
 refine codeAny_call_function hr.depth (KX _ _ lk) rfl S.co S.gen rfl (PySem.W.codeRec_of KX hcd) (hb _ _ _ _ ?_)
 refine wpAny_newFunctionEnv_cells S.kind hkind λenv he s1 x=>?_
 subst he
 refine⟨lim.keeps x.toInCall.keep,codeAny_func ?_⟩
 obtain⟨t,ht,hq⟩:=hbody A outer s H vs Q E (hr.deeper _) hsp
 have I:Inv (G0 CX P w K mg base N qual scope f cdv A outer s H E) [] (Vw N vs) H s1:=DW S hr.hd e0 hl r x
 refine wpAny_mono (ht [] s1 (Vw N vs) H _ I hq) (λfl s' hs=>?_) λe s' hs=>hs
 have fin:∀{σ':St}{H':Hp}{v:V}{u:Value},Inv (G0 CX P w K mg base N qual scope f cdv A outer s H E) [] σ' H' s'->X8 v u->Q v H'->CE outer P w H s Q u s':=
  fun {σ' H' v u} J rv q=>⟨v,H',J.os,J.bare,J.base,J.hok,rv,q⟩
 cases fl with
 |ret u=>
  obtain⟨v,σ',H',J,rv,q⟩:=hs
  exact fin J rv q
 |next=>
  obtain⟨σ',H',J,q⟩:=hs
  exact fin (v:=V.non) (u:=Value.none) J rfl q
 |brk=>
  obtain⟨_,_,_,q⟩:=hs
  exact False.elim q
 |cont=>
  obtain⟨_,_,_,q⟩:=hs
  exact False.elim q
section
variable {X:Cx}{x:Str}{p pos:Pos}{e:Expr}{es:List Expr}{t:TA}{id T:String}{r:List V->Hp->VK->Prop}
noncomputable def tCB (r:List V->Hp->VK->Prop)(t:TA):TE:=λσ H Q=>t σ H λvs H1=>r vs H1 Q
theorem Xo (hc:Qj X (.builtin id) r)(hg:Gl X x)(hm:X.mg x=none)(hv:bootBuiltins x=some (.builtin id))(ha:PA X (e::es) t)(hn:x≠ "__name__":=by decide)(hdb:(x==("__debug__":Str))=false:=by decide)
  (he:starEach (e::es) X.env=(false,eval e X.env)::starEach es X.env:=by rfl)(hpl:(backTo pos (starEach es X.env)).any (·.1)=false:=by rfl):PE X (.Call (.Name x p) (e::es) [] pos) (tCB r t):=by
 intro pins s σ H Q I h
 refine wpAny_Call_Name_kw (UP I hg hm hv ?_ hn hdb)
 exact PyProof.Rows.callWith_builtin1 (thn (ha pos pins s σ H _ I h) λus s1 r9=>by obtain⟨vs,H1,I1,r1,q1⟩:=r9;exact hc pins s1 σ H1 vs us Q I1 r1 q1) he hpl
theorem Zt (hc:Qj X (.type T) r)(hg:Gl X x)(hm:X.mg x=none)(hv:bootBuiltins x=some (.type T))(ha:PA X (e::es) t)(hn:x≠ "__name__":=by decide)(hdb:(x==("__debug__":Str))=false:=by decide)
  (he:starEach (e::es) X.env=(false,eval e X.env)::starEach es X.env:=by rfl)(hpl:(backTo pos (starEach es X.env)).any (·.1)=false:=by rfl):PE X (.Call (.Name x p) (e::es) [] pos) (tCB r t):=by
 intro pins s σ H Q I h
 refine wpAny_Call_Name_kw (UP I hg hm hv ?_ hn hdb)
 exact PyProof.Rows.callWith_type1 (thn (ha pos pins s σ H _ I h) λus s1 r9=>by obtain⟨vs,H1,I1,r1,q1⟩:=r9;exact hc pins s1 σ H1 vs us Q I1 r1 q1) he hpl
end
end L2
namespace HT
open PySem PyProof.Rows
section
open PySem.SeqAt
open PySem.AutoSeq1 (wpAny_loadPart')
open PySem.MeetsSeq PySem.MeetsSeq2 PySem.MeetsSeq3
end
section
variable {prog:Program}{w:World}{A:Around}{E:Value->Shared->Prop}{s:Shared}
noncomputable def sIx (n d:Nat):Option Int->Nat
 |none=>d
 |some v=>if v<0 then(v+(n:Int)).toNat else min v.toNat n
theorem sIx_none (n d:Nat):sIx n d none=d:=rfl
theorem sIx_nat (n d k:Nat):sIx n d (some (k:Int))=min k n:=by
 show(if(k:Int)<0 then((k:Int)+(n:Int)).toNat else min (k:Int).toNat n)=min k n
 rw[if_neg (by (first|lia|omega)),Int.toNat_natCast]
theorem Hw (n d:Nat)(hd:d<=n)(o:Option Int):sIx n d o<=n:=by
 cases o with
 |none=>exact hd
 |some v=>
  show(if v<0 then(v+(n:Int)).toNat else min v.toNat n)<=n
  by_cases hv:v<0
  ·rw[if_pos hv];(first|lia|omega)
  ·rw[if_neg hv];exact Nat.min_le_right _ _
theorem F1 (v:Int)(n d:Nat):(if v<0 then max (v+(n:Int)) 0 else min v (n:Int))=((sIx n d (some v):Nat):Int):=by
 show(if v<0 then max (v+(n:Int)) 0 else min v (n:Int))=(((if v<0 then(v+(n:Int)).toNat else min v.toNat n):Nat):Int)
 by_cases hv:v<0
 ·simp only[if_pos hv];(first|lia|omega)
 ·simp only[if_neg hv];(first|lia|omega)
theorem GR (lo hi:Option Int)(n:Nat):Builtin.Slice.sliceAdjust lo hi 1 (n:Int)=(((sIx n 0 lo:Nat):Int),((sIx n n hi:Nat):Int)):=by
 have h1:¬((1:Int)<0):=by (first|lia|omega)
 unfold Builtin.Slice.sliceAdjust
 simp only[h1,if_false]
 refine Prod.ext ?_ ?_
 ·cases lo with
  |none=>rfl
  |some v=>exact F1 v n 0
 ·cases hi with
  |none=>rfl
  |some v=>exact F1 v n n
theorem GS (i j:Nat):Builtin.Slice.slicePlaces (i:Int) (j:Int) 1=j-i:=by
 unfold Builtin.Slice.slicePlaces
 have h1:(1:Int) > 0:=by (first|lia|omega)
 simp only[h1,if_true,Int.ediv_one]
 split<;> (first|lia|omega)
theorem VW {v:Value}{o:Option Int}{Q:Option Int->Shared->Prop}(p:IsPart v o)(h:Q o s):wpAny (model prog w) A (Builtin.Slice.slicePartIndex v) Q E s:=by
 cases p with
 |none=>exact slicePart_none h
 |int i t=>exact slicePart_int h
theorem Jv {sl:Addr}{vl vu:Value}{lo hi:Option Int}{n:Nat}{Q:Int×Int×Nat->Shared->Prop}(hs:s.heap.IsSliceOf sl vl vu .none)(pl:IsPart vl lo)(pu:IsPart vu hi)
  (h:Q (((sIx n 0 lo:Nat):Int),1,sIx n n hi-sIx n 0 lo) s):wpAny (model prog w) A (Builtin.Slice.sliceApplied (.ref sl) (pure (n:Int))) Q E s:=by
 obtain⟨os,hos,hcs,hds⟩:=id hs
 unfold Builtin.Slice.sliceApplied Builtin.Slice.sliceFields
 refine wpAny_bind (wpAny_bind (wpAny_field hos hds (x:=vl) rfl (wpAny_bind (wpAny_field hos hds (x:=vu) rfl (wpAny_bind (wpAny_field hos hds (x:=.none) rfl (wpAny_pure ?_)))))))
 refine wpAny_bind (slicePart_none ?_)
 show wpAny _ _ (if((1:Int)==0)=true then _ else _) _ _ s
 rw[if_neg (by decide)]
 refine wpAny_bind (VW pl (wpAny_bind (VW pu (wpAny_bind (wpAny_pure ?_)))))
 show wpAny _ _ (match Builtin.Slice.sliceAdjust lo hi 1 (n:Int) with | (lo,hi)=>pure (lo,(1:Int),Builtin.Slice.slicePlaces lo hi 1)) _ _ s
 rw[GR lo hi n]
 show wpAny _ _ (pure (((sIx n 0 lo:Nat):Int),(1:Int),Builtin.Slice.slicePlaces ((sIx n 0 lo:Nat):Int) ((sIx n n hi:Nat):Int) 1)) _ _ s
 rw[GS]
 exact wpAny_pure h
theorem Ba (xs:Array Value)(i k:Nat):((List.range k).filterMap λ(m:Nat)=>xs[((i:Int)+(m:Int)*1).toNat]?).toArray=((xs.toList.drop i).take k).toArray:=by
 have e:(λ(m:Nat)=>xs[((i:Int)+(m:Int)*1).toNat]?)=λm=>xs[i+m]?:=by
  funext m
  have:((i:Int)+(m:Int)*1).toNat=i+m:=by (first|lia|omega)
  rw[this]
 rw[e]
 have:=pick_run xs i k
 rw[List.filterMap_map] at this
 have e2:((λx=>xs[x]?)∘λx=>i+x)=λm=>xs[i+m]?:=rfl
 rw[e2] at this
 rw[this]
theorem getItem_tuple_cut {t sl:Addr}{items:Array Value}{vl vu:Value}{lo hi:Option Int}{Q:Value->Shared->Prop}(ht:IsTup s.heap t items)(hs:s.heap.IsSliceOf sl vl vu .none)(pl:IsPart vl lo)(pu:IsPart vu hi)
  (hw:¬(sIx items.size 0 lo=0/\sIx items.size items.size hi=items.size))
  (h:Q (.ref s.heap.objs.size) {s with heap:=s.heap.push {cls:=.type "tuple",data:=.seq ((items.toList.drop (sIx items.size 0 lo)).take (sIx items.size items.size hi-sIx items.size 0 lo)).toArray}})
  (hsz:items.size<=sizeLine):wpAny (model prog w) A (getItem (.ref t) (.ref sl)) Q E s:=by
 have htake:sizeOk (.seq ((items.toList.drop (sIx items.size 0 lo)).take (sIx items.size items.size hi-sIx items.size 0 lo)).toArray):=by
  show((items.toList.drop (sIx items.size 0 lo)).take (sIx items.size items.size hi-sIx items.size 0 lo)).toArray.size<=sizeLine
  rw[List.size_toArray,List.length_take,List.length_drop,Array.length_toList]
  (first|lia|omega)
 have hj:sIx items.size items.size hi<=items.size:=Hw _ _ (Nat.le_refl _) hi
 obtain⟨os,hos,hcs,hds⟩:=id hs
 have hTs:s.TypeIs (.ref sl) "slice":=⟨os,hos,hcs⟩
 unfold getItem
 try with_reducible refine wpAny_holding ?_
 first |refine wpAny_bind (wpAny_pure ?_) |skip
 refine wpAny_bind (wpAny_sequenceKey ht.typeIs (by decide) ?_)
 refine wpAny_bind (wpAny_callSpecial?_slot (name:=Str.ofString "__getitem__") ht.typeIs PyProof.Rows.slot_tuple_getitem
  (wpAny_call_entry PyProof.Rows.slot_tuple_getitem ht.typeIs entry_tuple_getitem ?_ (args_tuple_getitem _ _)))
 show wpAny _ _ (Builtin.Tuple.tupleItemsOf (.ref t) >>= _) _ _ s
 refine wpAny_bind (tupleItemsOf_ ht ?_)
 refine wpAny_bind (wpAny_typeOf hTs ?_)
 rw[if_pos (by decide)]
 refine wpAny_bind (Jv hs pl pu ?_)
 have hno:¬((((sIx items.size 0 lo:Nat):Int)==0&&(1:Int)==1&&(sIx items.size items.size hi-sIx items.size 0 lo)==items.size)=true):=by
  intro q
  rw[Bool.and_eq_true,Bool.and_eq_true] at q
  have q1:((sIx items.size 0 lo:Nat):Int)=0:=eq_of_beq q.1.1
  have q2:sIx items.size items.size hi-sIx items.size 0 lo=items.size:=eq_of_beq q.2
  exact hw ⟨by (first|lia|omega),by (first|lia|omega)⟩
 show wpAny _ _ (if(((sIx items.size 0 lo:Nat):Int)==0&&(1:Int)==1&&(sIx items.size items.size hi-sIx items.size 0 lo)==items.size)=true then _ else _) _ _ s
 rw[if_neg hno,Ba]
 first
  |exact wpAny_bind (m:=Builtin.Tuple.tupleExact _) (wpAny_newObj_type (wpAny_pure ⟨_,rfl,wpAny_pure h⟩) htake)
  |exact wpAny_bind (m:=Builtin.Tuple.tupleExact _) (wpAny_newObj_type (wpAny_bind (wpAny_pure (wpAny_pure ⟨_,rfl,wpAny_pure h⟩))) htake)
  |exact wpAny_bind (wpAny_bind (m:=Builtin.Tuple.tupleExact _) (wpAny_newObj_type (wpAny_pure (wpAny_pure ⟨_,rfl,wpAny_pure h⟩)) htake))
  |exact wpAny_bind (wpAny_bind (m:=Builtin.Tuple.tupleExact _) (wpAny_newObj_type (wpAny_pure ⟨_,rfl,wpAny_pure h⟩) htake))
end
end HT
namespace L2
open PySem PySem.Spec PyProof.Rows
noncomputable abbrev TO:=St->Hp->(Option Int->Hp->Prop)->Prop
noncomputable def PO (X:Cx)(e:Option Expr)(t:TO):Prop:=
 ∀(pins:List (Addr×Obj)) (s:Shared) (σ:St) (H:Hp) (Q:Option Int->Hp->Prop),Inv X pins σ H s->t σ H Q->
  wpAny (model X.prog X.w) X.A (evalPart e X.env) (λu s'=>∃ o H',Inv X pins σ H' s'/\IsPart u o/\Q o H') X.xe s
noncomputable def Fg:TO:=λ_ H Q=>Q none H
noncomputable def HJ (t:TE):TO:=λσ H Q=>t σ H λx H1=>∃ i,x= .int i/\Q (some i) H1
section
variable {X:Cx}{e:Expr}{te:TE}{lo hi:Option Expr}{tl th:TO}{pos p2:Pos}
theorem Uv:PO X none Fg:=by
 intro pins s σ H Q I h
 rw[evalPart_none]
 exact wpAny_pure ⟨none,H,I, .none,h⟩
theorem Jh (h:PE X e te):PO X (some e) (HJ te):=by
 intro pins s σ H Q I hw
 rw[evalPart_some]
 refine thn (h pins s σ H _ I hw) λu s1 r9=>?_
 obtain⟨x,H1,I1,r1,q1⟩:=r9
 obtain⟨i,rfl,q⟩:=q1
 obtain⟨t,rfl⟩:=r1
 exact⟨some i,H1,I1, .int i t,q⟩
noncomputable def SlR (X:Cx)(r:V->Option Int->Option Int->Hp->VK->Prop):Prop:=
 ∀(pins:List (Addr×Obj)) (s:Shared) (σ:St) (H:Hp) (x:V) (v vl vu:Value) (lo hi:Option Int) (sl:Addr) (Q:VK),Inv X pins σ H s->X8 x v->s.heap.IsSliceOf sl vl vu .none->IsPart vl lo->IsPart vu hi->r x lo hi H Q->
  ∃T id,typeLookup (.type T) "__getitem__" =pure (some (.builtin id))/\s.TypeIs v T/\wpAny (model X.prog X.w) X.A (getItem v (.ref sl)) (EP X pins σ Q) X.xe s
theorem SlR.or {r r':V->Option Int->Option Int->Hp->VK->Prop}(h:SlR X r)(h':SlR X r'):SlR X (λx lo hi H Q=>r x lo hi H Q∨r' x lo hi H Q):=by
 intro pins s σ H x v vl vu lo hi sl Q I rx hs pl pu q
 rcases q with q |q
 ·exact h pins s σ H x v vl vu lo hi sl Q I rx hs pl pu q
 ·exact h' pins s σ H x v vl vu lo hi sl Q I rx hs pl pu q
noncomputable def tSl (r:V->Option Int->Option Int->Hp->VK->Prop)(te:TE)(tl th:TO):TE:=λσ H Q=>te σ H λx H1=>tl σ H1 λl H2=>th σ H2 λu H3=>r x l u H3 Q
theorem QP {r:V->Option Int->Option Int->Hp->VK->Prop}(hr:SlR X r)(he:PE X e te)(hl:PO X lo tl)(hu:PO X hi th):PE X (.Subscript e (.Slice lo hi none p2) pos) (tSl r te tl th):=by
 intro pins s σ H Q I h
 refine Subscript_ (thn (he pins s σ H _ I h) λv s1 r9=>?_)
 obtain⟨x,H1,I1,r1,q1⟩:=r9
 refine wpAny_Slice (thn (hl pins s1 σ H1 _ I1 q1) λvl s2 ⟨l,H2,I2,pl,q2⟩=>thn (hu pins s2 σ H2 _ I2 q2) λvu s3 r9=>?_)
 obtain⟨u,H3,I3,pu,q3⟩:=r9
 rw[evalPart_none]
 refine wpAny_pure ?_
 have I4:Inv X pins σ H3 {s3 with heap:=s3.heap.push {cls:=.type "slice",data:=.fields #[vl,vu, .none]}}:=I3.kept (t':=s3.toks) λb ob q=>Heap.get?_push_of_some _ q
 obtain⟨T,id,hT,ht,hg⟩:=hr pins {s3 with heap:=s3.heap.push {cls:=.type "slice",data:=.fields #[vl,vu, .none]}} σ H3 x v vl vu l u s3.heap.objs.size Q I4 r1 (Heap.IsSliceOf.new ..) pl pu q3
 show wpAny (model X.prog X.w) X.A (subscriptTail e (.Slice lo hi none p2) v (.ref s3.heap.objs.size)) (EP X pins σ Q) X.xe {s3 with heap:=s3.heap.push {cls:=.type "slice",data:=.fields #[vl,vu, .none]}}
 exact tail_any (ops:=[.ref s3.heap.objs.size,v]) ht hT hg (by with_unfolding_all rfl)
noncomputable def BN (xs:List V)(lo hi:Option Int):List V:=(xs.drop (HT.sIx xs.length 0 lo)).take (HT.sIx xs.length xs.length hi-HT.sIx xs.length 0 lo)
theorem Vi (xs:List V)(lo hi:Option Int):(BN xs lo hi).length<=xs.length:=by
 unfold BN
 rw[List.length_take,List.length_drop]
 (first|lia|omega)
noncomputable def Lr (K:PySem.W.Frag):V->Option Int->Option Int->Hp->VK->Prop:=λx lo hi H Q=>∃ a xs,x= .ref a/\SqT K H a xs/\
 ¬(HT.sIx xs.length 0 lo=0/\HT.sIx xs.length xs.length hi=xs.length)/\∀p,H p=none->Q (.ref p) (upd H p (.tup (BN xs lo hi)))
theorem Ia:SlR X (Lr X.K):=by
 intro pins s σ H x v vl vu lo hi sl Q I rx hs pl pu h
 obtain⟨a,xs,rfl,hx,hw,q⟩:=h
 cases rx
 obtain⟨its,r,ht,hz⟩:=I.tuple hx
 have hlen:its.toArray.size=xs.length:=by rw[List.size_toArray];exact r.length.symm
 refine⟨"tuple",_,PyProof.Rows.slot_tuple_getitem.lookup,ht.typeIs,?_⟩
 refine HT.getItem_tuple_cut ht hs pl pu (by rw[hlen];exact hw) ?_ (by rw[hlen];exact hz)
 rw[hlen]
 refine⟨.ref s.heap.objs.size,_,I.laid (t':=s.toks) (o:=.tup (BN xs lo hi)) (λb ob q=>Heap.get?_push_of_some _ q) (Nat.le_refl _) ?_,rfl,q _ (I.hok.fresh (Nat.le_refl _))⟩
 exact⟨Nat.le_trans (Vi xs lo hi) hz,_,(r.drop (HT.sIx xs.length 0 lo)).take (HT.sIx xs.length xs.length hi-HT.sIx xs.length 0 lo),VJ.new _ _⟩
end
noncomputable def ixN (n:Nat)(i:Int):Option Nat:=if 0<=i then(if i<n then some i.toNat else none) else if-(n:Int)<=i then some (i+n).toNat else none
noncomputable def atI {α:Type}(xs:List α)(i:Int):Option α:=(ixN xs.length i).bind λj=>xs[j]?
theorem Fs {n:Nat}{i:Int}{j:Nat}(h:ixN n i=some j):seqIndex? i n=some j/\j<n/\ -(n:Int)<=i/\i<n:=by
 unfold ixN at h
 by_cases h0:0<=i
 ·rw[if_pos h0] at h
  by_cases h1:i<n
  ·rw[if_pos h1] at h
   have e:i.toNat=j:=Option.some.inj h
   exact⟨by rw[seqIndex_of h0 h1,e],by (first|lia|omega),by (first|lia|omega),h1⟩
  ·rw[if_neg h1] at h;cases h
 ·rw[if_neg h0] at h
  by_cases h1: -(n:Int)<=i
  ·rw[if_pos h1] at h
   have e:(i+n).toNat=j:=Option.some.inj h
   exact⟨by rw[seqIndex_neg (by (first|lia|omega)) h1,e],by (first|lia|omega),h1,by (first|lia|omega)⟩
  ·rw[if_neg h1] at h;cases h
theorem Dh {α:Type}{xs:List α}{i:Int}{v:α}(h:atI xs i=some v):∃j,seqIndex? i xs.length=some j/\xs[j]?=some v/\j<xs.length/\ -(xs.length:Int)<=i/\i<xs.length:=by
 unfold atI at h
 cases e:ixN xs.length i with
 |none=>rw[e] at h;cases h
 |some j=>
  rw[e] at h
  obtain⟨h1,h2,h3,h4⟩:=Fs e
  exact⟨j,h1,h,h2,h3,h4⟩
noncomputable def B0 (b:Expr):Prop:=∀ o i,subscripted b false o i=operate [o,i] (getItem o i)
noncomputable def IxR (X:Cx)(r:R2):Prop:=
 ∀(value slice:Expr) (pins:List (Addr×Obj)) (s:Shared) (σ:St) (H:Hp) (x y:V) (v u:Value) (Q:VK),Inv X pins σ H s->X8 x v->X8 y u->r x y H Q->
  subscripted slice false v u=operate [v,u] (getItem v u)->wpAny (model X.prog X.w) X.A (subscriptTail value slice v u) (EP X pins σ Q) X.xe s
noncomputable def MtR (X:Cx)(id:String)(r:V->List V->Hp->VK->Prop):Prop:=
 ∀(pins:List (Addr×Obj)) (s:Shared) (σ:St) (H:Hp) (x:V) (xs:List V) (v:Value) (us:List Value) (Q:VK),Inv X pins σ H s->X8 x v->Yg xs us->r x xs H Q->
  wpAny (model X.prog X.w) X.A (call (.builtin id) (v::us)) (EP X pins σ Q) X.xe s
section
variable {X:Cx}{a b:Expr}{ta tb:TE}{pos:Pos}
theorem IxR.or {r r':R2}(h:IxR X r)(h':IxR X r'):IxR X (λx y H Q=>r x y H Q∨r' x y H Q):=by
 intro value slice pins s σ H x y v u Q I rx ry q hs
 rcases q with q |q
 ·exact h value slice pins s σ H x y v u Q I rx ry q hs
 ·exact h' value slice pins s σ H x y v u Q I rx ry q hs
theorem MtR.or {id:String}{r r':V->List V->Hp->VK->Prop}(h:MtR X id r)(h':MtR X id r'):MtR X id (λx xs H Q=>r x xs H Q∨r' x xs H Q):=by
 intro pins s σ H x xs v us Q I rx rs q
 rcases q with q |q
 ·exact h pins s σ H x xs v us Q I rx rs q
 ·exact h' pins s σ H x xs v us Q I rx rs q
theorem Xu {r:R2}(hr:IxR X r)(ha:PE X a ta)(hb:PE X b tb)(hs:B0 b):PE X (.Subscript a b pos) (tOp r ta tb):=by
 intro pins s σ H Q I h
 exact Subscript_ (Li ha hb I h λv u s2 x y H2 I2 rx ry q=>hr a b pins s2 σ H2 x y v u Q I2 rx ry q (hs _ _))
noncomputable def BS (K:PySem.W.Frag):R2:=λx y H Q=>∃ p xs i v,x= .ref p/\y= .int i/\SqL K H p xs/\atI xs i=some v/\Q v H
noncomputable def Bo (K:PySem.W.Frag):R2:=λx y H Q=>∃ p xs i v,x= .ref p/\y= .int i/\SqT K H p xs/\atI xs i=some v/\Q v H
theorem BX:IxR X (BS X.K):=by
 intro value slice pins s σ H x y v u Q I rx ry h hs
 obtain⟨p,xs,i,z,rfl,rfl,hq,he,q⟩:=h
 cases rx
 obtain⟨t,rfl⟩:=ry
 obtain⟨its,r,pl,hz⟩:=I.list hq
 obtain⟨j,h1,h2,h3,h4,h5⟩:=Dh he
 obtain⟨w,ew,rw'⟩:=r.get h2
 have hl:=r.length
 have hn:=Gc
 have fin:EP X pins σ Q w s:=⟨z,H,I,rw',q⟩
 by_cases h0:0<=i
 ·have hj:i.toNat=j:=by
   rw[seqIndex_of h0 h5] at h1
   exact Option.some.inj h1
  exact item_listR pl.isList h0 (by (first|lia|omega)) (by rw[hj];simpa using ew) fin hs
 ·have hj:(i+(its.toArray.size:Int)).toNat=j:=by
   rw[seqIndex_neg (by (first|lia|omega)) h4] at h1
   rw[List.size_toArray, ←hl]
   exact Option.some.inj h1
  exact subscriptTail_builtinR (x:=w) pl.isList.typeIs slot_list_getitem.lookup
   (wpAny_getItem_list_neg (Q:=λr s'=>r=w/\EP X pins σ Q r s') pl.isList (by (first|lia|omega)) (by rw[List.size_toArray]<;> (first|lia|omega)) (by (first|lia|omega)) (by rw[hj];simpa using ew) ⟨rfl,fin⟩) hs
theorem IB:IxR X (Bo X.K):=by
 intro value slice pins s σ H x y v u Q I rx ry h hs
 obtain⟨p,xs,i,z,rfl,rfl,hq,he,q⟩:=h
 cases rx
 obtain⟨t,rfl⟩:=ry
 obtain⟨its,r,pl,hz⟩:=I.tuple hq
 obtain⟨j,h1,h2,h3,h4,h5⟩:=Dh he
 obtain⟨w,ew,rw'⟩:=r.get h2
 have hl:=r.length
 have hn:=Gc
 have fin:EP X pins σ Q w s:=⟨z,H,I,rw',q⟩
 exact subscriptTail_builtinR (x:=w) pl.typeIs slot_tuple_getitem.lookup
  (getItem_tuple (j:=j) (Q:=λr s'=>r=w/\EP X pins σ Q r s') pl (by (first|lia|omega)) (by (first|lia|omega)) (by rw[List.size_toArray, ←hl];exact h1) (by simpa using ew) ⟨rfl,fin⟩) hs
theorem GT (its:List Value)(n j:Nat)(u:Value):Obj.mapSeq (·.setIfInBounds j u) {cls:=.type "list",data:=.seq its.toArray n}={cls:=.type "list",data:=.seq (its.set j u).toArray n}:=by
 simp[Obj.mapSeq]
theorem Inv.lst {pins:List (Addr×Obj)}{σ:St}{H:Hp}{s:Shared}{p:Addr}{xs:List V}(I:Inv X pins σ H s)(h:H p=some (.lst xs)):
  ∃(its:List Value) (n:Nat),Yg xs its/\s.heap.get? p=some {cls:=.type "list",data:=.seq its.toArray n}/\xs.length<=sizeLine:=by
 obtain⟨z,its,n,r,e⟩:=I.hok p _ h
 exact⟨its,n,r,e,z⟩
theorem Inv.lstUpd {pins:List (Addr×Obj)}{σ:St}{H:Hp}{s:Shared}{p:Addr}{xs ys:List V}{its its':List Value}{n n':Nat}{f:Obj->Obj}(I:Inv X pins σ H s)(h:H p=some (.lst xs))
  (ho:s.heap.get? p=some {cls:=.type "list",data:=.seq its.toArray n})(hf:f {cls:=.type "list",data:=.seq its.toArray n}={cls:=.type "list",data:=.seq its'.toArray n'})(r:Yg ys its')(hz:ys.length<=sizeLine)(t:Nat):
  Inv X pins σ (upd H p (.lst ys)) {s with heap:=s.heap.update p f,toks:=t}:=by
 have e:(s.heap.update p f).get? p=some {cls:=.type "list",data:=.seq its'.toArray n'}:=by
  rw[Heap.get?_update_self f ho (by rw[hf]<;> rfl),hf]
 refine I.write (x:=p) (e:=p) (by rw[h];trivial) (.inl rfl) (λb u hb q=>(Heap.get?_update_other _ _ (Ne.symm hb)).trans q) ⟨_,e⟩ ?_
 exact⟨hz,its',n',r,e⟩
noncomputable def B6:V->V->V->Hp->(Hp->Prop)->Prop:=λo i v H Q=>∃ p xs k j,o= .ref p/\i= .int k/\H p=some (.lst xs)/\ixN xs.length k=some j/\Q (upd H p (.lst (xs.set j v)))
theorem QQ:LV X B6:=by
 intro pins s σ H o i v ov iv u Q I ro ri rv h
 obtain⟨p,xs,k,j,rfl,rfl,hp,hj,q⟩:=h
 cases ro
 obtain⟨t,rfl⟩:=ri
 obtain⟨its,n,r,ho,hz⟩:=I.lst hp
 obtain⟨h1,h2,h3,h4⟩:=Fs hj
 have hl:=r.length
 have hn:=Gc
 have I':Inv X pins σ (upd H p (.lst (xs.set j v))) {s with heap:=s.heap.update p (Obj.mapSeq (·.setIfInBounds j u))}:=
  I.lstUpd hp ho (GT its n j u) (r.set rv j) (by rw[List.length_set];exact hz) s.toks
 by_cases h0:0<=k
 ·have hk:k.toNat=j:=by
   rw[seqIndex_of h0 h4] at h1
   exact Option.some.inj h1
  exact PySem.W.ki_setAt ho h0 (by (first|lia|omega)) (by rw[List.size_toArray, ←hl];exact h4) (by rw[hk];exact⟨_,I',q⟩)
 ·have hk:(k+(its.toArray.size:Int)).toNat=j:=by
   rw[seqIndex_neg (by (first|lia|omega)) h3] at h1
   rw[List.size_toArray, ←hl]
   exact Option.some.inj h1
  exact PySem.W.ki_setBack ho (by (first|lia|omega)) (by rw[List.size_toArray, ←hl];exact h3) (by (first|lia|omega)) (by rw[hk];exact⟨_,I',q⟩)
theorem UU (lo hi:Option Int)(n:Nat):(sliceBounds lo hi none n).1=((HT.sIx n 0 lo:Nat):Int)/\(sliceBounds lo hi none n).2.1=((HT.sIx n n hi:Nat):Int)/\(sliceBounds lo hi none n).2.2=1:=by
 refine⟨?_,?_,rfl⟩
 ·cases lo with
  |none=>simp[sliceBounds,HT.sIx]
  |some i=>
   simp only[sliceBounds,HT.sIx,Option.getD_none,show(1:Int) > 0 by decide,if_true]
   by_cases h:i<0
   ·simp only[h,if_true]<;> (first|lia|omega)
   ·simp only[h,if_false]<;> (first|lia|omega)
 ·cases hi with
  |none=>simp[sliceBounds,HT.sIx]
  |some i=>
   simp only[sliceBounds,HT.sIx,Option.getD_none,show(1:Int) > 0 by decide,if_true]
   by_cases h:i<0
   ·simp only[h,if_true]<;> (first|lia|omega)
   ·simp only[h,if_false]<;> (first|lia|omega)
theorem Uz (its:List Value)(lo hi:Option Int):slicePick its.toArray lo hi none=((its.drop (HT.sIx its.length 0 lo)).take (HT.sIx its.length its.length hi-HT.sIx its.length 0 lo)).toArray:=by
 obtain⟨h1,h2,h3⟩:=UU lo hi its.toArray.size
 unfold slicePick
 rw[h1,h2,h3]
 simp only[sliceRange_one,pick_run,List.size_toArray]<;> rfl
noncomputable def IP (K:PySem.W.Frag):V->Option Int->Option Int->Hp->VK->Prop:=λx lo hi H Q=>∃ a xs,x= .ref a/\SqL K H a xs/\∀p,H p=none->Q (.ref p) (upd H p (.lst (BN xs lo hi)))
theorem B7:SlR X (IP X.K):=by
 intro pins s σ H x v vl vu lo hi sl Q I rx hs pl pu h
 obtain⟨a,xs,rfl,hx,q⟩:=h
 cases rx
 obtain⟨its,r,ht,hz⟩:=I.list hx
 have hlen:=r.length
 refine⟨"list",_,slot_list_getitem.lookup,ht.isList.typeIs,?_⟩
 refine wpAny_getItem_list_slice ht.isList hs pl pu .none (by simp) ?_ (by rw[List.size_toArray]<;> (first|lia|omega))
 rw[Uz, ←hlen]
 refine⟨.ref s.heap.objs.size,_,I.laid (t':=s.toks) (o:=.lst (BN xs lo hi)) (λb ob q=>Heap.get?_push_of_some _ q) (Nat.le_refl _) ?_,rfl,q _ (I.hok.fresh (Nat.le_refl _))⟩
 exact⟨Nat.le_trans (Vi xs lo hi) hz,_,0,(r.drop (HT.sIx xs.length 0 lo)).take (HT.sIx xs.length xs.length hi-HT.sIx xs.length 0 lo),Heap.get?_push_size _ rfl⟩
noncomputable def Vn:V->Bool
 | .non=>true
 | .bl _=>true
 | .int _=>true
 | .str _=>true
 |_=>false
noncomputable def eqV:V->V->Bool
 | .non, .non=>true
 | .bl a, .bl b=>a==b
 | .bl a, .int b=>(if a then 1 else 0)==b
 | .int a, .bl b=>a==(if b then 1 else 0)
 | .int a, .int b=>a==b
 | .str a, .str b=>a==b
 |_,_=>false
theorem Hx {A:Around}{s:Shared}{y x:V}{u v:Value}(ry:X8 y u)(rx:X8 x v)(fy:Vn y=true)(fx:Vn x=true):SeqAt.EqAt A s u v (eqV y x):=by
 cases y with
 |non=>
  cases ry
  cases x with
  |non=>cases rx;exact SeqAt.EqAt.same _
  |bl b=>cases rx;exact SeqAt.EqAt.none_bool b
  |int b=>obtain⟨t,rfl⟩:=rx;exact SeqAt.EqAt.none_int b t
  |str b=>obtain⟨t,rfl⟩:=rx;exact SeqAt.EqAt.none_str b t
  |_=>exact absurd (show false=true from fx) Bool.false_ne_true
 |bl a=>
  cases ry
  cases x with
  |non=>cases rx;exact SeqAt.EqAt.bool_none a
  |bl b=>cases rx;exact SeqAt.EqAt.bool_bool a b
  |int b=>obtain⟨t,rfl⟩:=rx;exact SeqAt.EqAt.bool_int a b t
  |str b=>obtain⟨t,rfl⟩:=rx;exact SeqAt.EqAt.bool_str a b t
  |_=>exact absurd (show false=true from fx) Bool.false_ne_true
 |int a=>
  obtain⟨t',rfl⟩:=ry
  cases x with
  |non=>cases rx;exact SeqAt.EqAt.int_none a t'
  |bl b=>cases rx;exact SeqAt.EqAt.int_bool a t' b
  |int b=>obtain⟨t,rfl⟩:=rx;exact SeqAt.EqAt.int_int a t' b t
  |str b=>obtain⟨t,rfl⟩:=rx;exact SeqAt.EqAt.int_str a t' b t
  |_=>exact absurd (show false=true from fx) Bool.false_ne_true
 |str a=>
  obtain⟨t',rfl⟩:=ry
  cases x with
  |non=>cases rx;exact SeqAt.EqAt.str_none a t'
  |bl b=>cases rx;exact SeqAt.EqAt.str_bool a t' b
  |int b=>obtain⟨t,rfl⟩:=rx;exact SeqAt.EqAt.str_int a t' b t
  |str b=>obtain⟨t,rfl⟩:=rx;exact SeqAt.EqAt.str_str a t' b t
  |_=>exact absurd (show false=true from fx) Bool.false_ne_true
 |_=>exact absurd (show false=true from fy) Bool.false_ne_true
noncomputable def eqU (x:V)(u:Value):Bool:=match u with
 | .none=>eqV .non x
 | .bool b=>eqV (.bl b) x
 | .int i _=>eqV (.int i) x
 | .str z _=>eqV (.str z) x
 |_=>false
theorem Bs {x y:V}{u:Value}(r:X8 y u)(f:Vn y=true):eqU x u=eqV y x:=by
 cases y with
 |non=>cases r;rfl
 |bl b=>cases r;rfl
 |int i=>obtain⟨t,rfl⟩:=r;rfl
 |str z=>obtain⟨t,rfl⟩:=r;rfl
 |_=>exact absurd (show false=true from f) Bool.false_ne_true
theorem Vd {x:V}:∀{xs:List V}{us:List Value},Yg xs us->xs.all Vn=true->us.any (eqU x)=xs.any λy=>eqV y x
 |_,_, .nil,_=>rfl
 |y::xs,u::us, .cons r t,f=>by
  rw[List.all_cons,Bool.and_eq_true] at f
  rw[List.any_cons,List.any_cons,Bs r f.1,Vd t f.2]
theorem QU {A:Around}{s:Shared}{x:V}{v:Value}(rx:X8 x v)(fx:Vn x=true):∀{xs:List V}{us:List Value},Yg xs us->xs.all Vn=true->∀u∈us,SeqAt.EqAt A s u v (eqU x u)
 |_,_, .nil,_=>λu hu=>by cases hu
 |y::xs,u::us, .cons r t,f=>λu' hu=>by
  rw[List.all_cons,Bool.and_eq_true] at f
  rcases List.mem_cons.mp hu with rfl |hu
  ·rw[Bs r f.1];exact Hx r rx f.1 fx
  ·exact QU rx fx t f.2 u' hu
noncomputable def inV (x:V)(xs:List V):Bool:=xs.any λy=>eqV y x
noncomputable def rIn (K:PySem.W.Frag)(neg:Bool):R2:=λx y H Q=>∃ p xs,y= .ref p/\(SqL K H p xs∨SqT K H p xs)/\Vn x=true/\xs.all Vn=true/\Q (.bl (if neg then !inV x xs else inV x xs)) H
theorem Fc:OpR X (compareOp .In) (rIn X.K false):=by
 intro pins s σ H x y v u Q I rx ry h
 obtain⟨p,xs,rfl,hq,fx,fs,q⟩:=h
 cases ry
 rcases hq with hq |hq
 ·obtain⟨its,r,pl,hz⟩:=I.list hq
  refine SeqAt.in_listAt (eqU x) pl.isList (λw hw=>QU rx fx r fs w (by simpa using hw)) ⟨.bl _,H,I,rfl,?_⟩
  rw[show its.toArray.any (eqU x)=its.any (eqU x) by simp,Vd r fs]
  exact q
 ·obtain⟨its,r,pl,hz⟩:=I.tuple hq
  refine SeqAt.in_tupleAt (eqU x) pl (λw hw=>QU rx fx r fs w (by simpa using hw)) ⟨.bl _,H,I,rfl,?_⟩
  rw[show its.toArray.any (eqU x)=its.any (eqU x) by simp,Vd r fs]
  exact q
theorem Z6:OpR X (compareOp .NotIn) (rIn X.K true):=by
 intro pins s σ H x y v u Q I rx ry h
 obtain⟨p,xs,rfl,hq,fx,fs,q⟩:=h
 cases ry
 rcases hq with hq |hq
 ·obtain⟨its,r,pl,hz⟩:=I.list hq
  refine SeqAt.notIn_listAt (eqU x) pl.isList (λw hw=>QU rx fx r fs w (by simpa using hw)) ⟨.bl _,H,I,rfl,?_⟩
  rw[show its.toArray.any (eqU x)=its.any (eqU x) by simp,Vd r fs]
  exact q
 ·obtain⟨its,r,pl,hz⟩:=I.tuple hq
  refine SeqAt.notIn_tupleAt (eqU x) pl (λw hw=>QU rx fx r fs w (by simpa using hw)) ⟨.bl _,H,I,rfl,?_⟩
  rw[show its.toArray.any (eqU x)=its.any (eqU x) by simp,Vd r fs]
  exact q
theorem U0:Qj X (.builtin "len") (λxs H Q=>∃ p ys,xs=[.ref p]/\(SqL X.K H p ys∨SqT X.K H p ys)/\Q (.int ys.length) H):=by
 intro pins s σ H xs us Q I r h
 obtain⟨p,ys,rfl,hq,q⟩:=h
 obtain⟨u,rfl,rx⟩:=CP r
 cases rx
 have hn:=Gc
 rcases hq with hq |hq
 ·obtain⟨its,r',pl,hz⟩:=I.list hq
  have hlen:=r'.length
  exact Calls.call_len_list pl.isList (by simp only[List.size_toArray]<;> (first|lia|omega)) ⟨.int ys.length,H,I.tok _,⟨s.toks+1,by rw[List.size_toArray,hlen]⟩,q⟩
 ·obtain⟨its,r',pl,hz⟩:=I.tuple hq
  have hlen:=r'.length
  exact len_tuple pl (by simp only[List.size_toArray]<;> (first|lia|omega)) ⟨.int ys.length,H,I.tok _,⟨s.toks+1,by rw[List.size_toArray,hlen]⟩,q⟩
theorem Qj.or {f:Value}{r r':List V->Hp->VK->Prop}(h:Qj X f r)(h':Qj X f r'):Qj X f (λxs H Q=>r xs H Q∨r' xs H Q):=by
 intro pins s σ H xs us Q I rs q
 rcases q with q |q
 ·exact h pins s σ H xs us Q I rs q
 ·exact h' pins s σ H xs us Q I rs q
theorem U4:Qj X (.type "list") (λxs H Q=>∃ p ys,xs=[.ref p]/\(SqL X.K H p ys∨SqT X.K H p ys)/\∀l,H l=none->Q (.ref l) (upd H l (.lst ys))):=by
 intro pins s σ H xs us Q I r h
 obtain⟨p,ys,rfl,hq,q⟩:=h
 obtain⟨u,rfl,rx⟩:=CP r
 cases rx
 have fin:∀(its:List Value),Yg ys its->ys.length<=sizeLine->∀(h':Heap) (c':Nat),(∀b o',s.heap.get? b=some o'->h'.get? b=some o')->
   h'.get? s.heap.objs.size=some {cls:=.type "list",dict:=none,data:=.seq its.toArray c',slots:=#[]}->EP X pins σ Q (.ref s.heap.objs.size) {s with heap:=h'}:=λits r' hz h' c' kp e=>
  ⟨.ref s.heap.objs.size,_,I.laid (t':=s.toks) kp (Nat.le_refl _) (show YB X.prog X.w _ h' _ (.lst ys) from⟨hz,its,c',r',e⟩),rfl,q _ (I.hok.fresh (Nat.le_refl _))⟩
 rcases hq with hq |hq
 ·obtain⟨its,r',pl,hz⟩:=I.list hq
  have hlen:=r'.length
  obtain⟨o,ho,hc,n,hd⟩:=pl.isList
  exact call_list_seq p (.inl rfl) ho hc hd (λh' c' kp e=>fin its r' hz h' c' kp e) (by simp only[List.size_toArray]<;> (first|lia|omega))
 ·obtain⟨its,r',pl,hz⟩:=I.tuple hq
  have hlen:=r'.length
  obtain⟨o,ho,hc,n,hd⟩:=pl
  exact call_list_seq p (.inr rfl) ho hc hd (λh' c' kp e=>fin its r' hz h' c' kp e) (by simp only[List.size_toArray]<;> (first|lia|omega))
noncomputable def tyV (K:PySem.W.Frag)(T:String)(x:V)(H:Hp):Prop:=match x with
 | .str _=>T= "str"
 | .int _=>T= "int"
 | .ref p=>(T= "list" /\∃xs,SqL K H p xs)∨(T= "tuple" /\∃o,K.lookup p=some o/\o.cls= .type "tuple" /\o.dict=none)∨
   (T= "dict" /\((∃kvs,H p=some (.dK kvs))∨∃kvs,H p=some (.dT kvs)))∨(T= "set" /\∃S n,H p=some (.set S n))
 |_=>False
theorem BP {pins:List (Addr×Obj)}{σ:St}{H:Hp}{s:Shared}{T:String}{x:V}{v:Value}(I:Inv X pins σ H s)(r:X8 x v)(ty:tyV X.K T x H):
  s.TypeIs v T/\∀a,v= .ref a->∃ob,s.heap.get? a=some ob/\ob.dict=none:=by
 cases x with
 |str z=>
  obtain⟨t,rfl⟩:=r
  cases(show T= "str" from ty)
  exact⟨typeIs_str s z t,λ_ e=>nomatch e⟩
 |int i=>
  obtain⟨t,rfl⟩:=r
  cases(show T= "int" from ty)
  exact⟨typeIs_int s i t,λ_ e=>nomatch e⟩
 |ref p=>
  cases r
  rcases ty with⟨rfl,xs,hq⟩ | ⟨rfl,o,hk,hc,hd⟩ | ⟨rfl,hk⟩ | ⟨rfl,S,n,hk⟩
  ·obtain⟨its,_,pl,_⟩:=I.list hq
   refine⟨pl.isList.typeIs,λa e=>?_⟩
   cases e
   obtain⟨o,n,e,c,hd,_⟩:=pl
   exact⟨o,e,hd⟩
  ·refine⟨⟨o,I.kIn p o hk,hc⟩,λa e=>?_⟩
   cases e
   exact⟨o,I.kIn _ o hk,hd⟩
  ·have z:∃o,s.heap.get? p=some o/\o.ExactDict:=by
    rcases hk with⟨kvs,hk⟩ | ⟨kvs,hk⟩
    ·obtain⟨_,_,_,_,o,_,_,e,ex,_⟩:=I.hok p _ hk
     exact⟨o,e,ex⟩
    ·obtain⟨_,_,_,_,o,_,_,e,ex,_⟩:=I.hok p _ hk
     exact⟨o,e,ex⟩
   obtain⟨o,e,ex⟩:=z
   refine⟨⟨o,e,ex.1⟩,λa e2=>?_⟩
   cases e2
   exact⟨o,e,ex.2.1⟩
  ·obtain⟨o,_,_,_,e,ex,_⟩:=I.hok p _ hk
   refine⟨⟨o,e,ex.1⟩,λa e2=>?_⟩
   cases e2
   exact⟨o,e,ex.2.1⟩
 |_=>exact False.elim ty
noncomputable def LC (K:PySem.W.Frag)(T:String)(r:V->List V->Hp->VK->Prop)(to:TE):TE:=λσ H Q=>to σ H λx H1=>tyV K T x H1/\r x [] H1 Q
noncomputable def tBM (K:PySem.W.Frag)(T:String)(r:V->List V->Hp->VK->Prop)(to:TE)(t:TA):TE:=λσ H Q=>to σ H λx H1=>tyV K T x H1/\t σ H1 λxs H2=>r x xs H2 Q
variable {o e:Expr}{es:List Expr}{to:TE}{t:TA}{name:Str}{apos cpos:Pos}{T id:String}{r:V->List V->Hp->VK->Prop}
theorem Hk (pa:PlainAttrs T)(slot:Slot T name id)(hty:typeOf (.builtin id)=pure (.type "method_descriptor"))(hm:MtR X id r)(ho:PE X o to)
  (hbase:attributeBase o name X.env (eval o X.env)=eval o X.env:=by rfl)(hline:(apos.endLine==cpos.line)=true:=by rfl):PE X (.Call (.Attribute o name apos) [] [] cpos) (LC X.K T r to):=by
 intro pins s σ H Q I h
 refine wpAny_Call_method0_late hbase hline (thn (ho pins s σ H _ I h) λv s1 r9=>?_)
 obtain⟨x,H1,I1,r1,ty,q1⟩:=r9
 obtain⟨h1,h2⟩:=BP I1 r1 ty
 exact⟨T,id,pa,slot,hty,h1,h2,Calls.callWith_builtin rfl (PySem.evalArgs_none (hm pins s1 σ H1 x [] v [] Q I1 r1 .nil q1))⟩
theorem Y7 (pa:PlainAttrs T)(slot:Slot T name id)(hty:typeOf (.builtin id)=pure (.type "method_descriptor"))(hm:MtR X id r)(ho:PE X o to)(ha:PA X (e::es) t)
  (hbase:attributeBase o name X.env (eval o X.env)=eval o X.env:=by rfl)
  (hfew:((backTo cpos (starEach (e::es) X.env)).all (λx=>!x.1)&&(backToKw cpos (keywordEach [] X.env)).all (λx=>x.1.isSome)
   &&decide ((e::es).length+([]:List Keyword).length+(if([]:List Keyword).isEmpty then 0 else 1)<30))=true:=by rfl)
  (hline:(apos.endLine==cpos.line)=true:=by rfl)(hs:starEach (e::es) X.env=(false,eval e X.env)::starEach es X.env:=by rfl)(hplain:(backTo cpos (starEach es X.env)).any (·.1)=false:=by rfl):
  PE X (.Call (.Attribute o name apos) (e::es) [] cpos) (tBM X.K T r to t):=by
 intro pins s σ H Q I h
 refine wpAny_Call_method_late hbase hfew hline rfl (thn (ho pins s σ H _ I h) λv s1 r9=>?_)
 obtain⟨x,H1,I1,r1,ty,q1⟩:=r9
 obtain⟨h1,h2⟩:=BP I1 r1 ty
 refine⟨T,id,pa,slot,hty,h1,h2,?_⟩
 have hA:=ha cpos pins s1 σ H1 _ I1 q1
 rw[hs] at hA⊢
 refine Calls.callWith_builtin (by show(false || (backTo cpos (starEach es X.env)).any (·.1))=false;rw[hplain]<;> rfl) (Calls.evalArgs_plain ?_)
 exact thn hA λus s2 r9=>by obtain⟨vs,H2,I2,r2,q2⟩:=r9;exact hm pins s2 σ H2 x vs v us Q I2 r1 r2 q2
/- xs.append(e), list.index on a module's tuple .. are MtR facts of 06m -/
end
noncomputable def MtM (X:Cx)(id:String)(r:V->List V->Hp->VK->Prop):Prop:=
 ∀(pins:List (Addr×Obj)) (s:Shared) (σ:St) (H:Hp) (x:V) (xs:List V) (v:Value) (us:List Value) (Q:VK),Inv X pins σ H s->X8 x v->Yg xs us->r x xs H Q->
  wpAny (model X.prog X.w) X.A (call (.builtin id) (v::us)) (EP X pins σ Q) X.xe s
theorem Yg.one:∀{x:V}{us:List Value},Yg [x] us->∃u,us=[u]/\X8 x u:=fun {x us} h=>by
 cases h with
 |cons r t=>
  cases t
  exact⟨_,rfl,r⟩
theorem Yg.two:∀{x y:V}{us:List Value},Yg [x,y] us->∃u v,us=[u,v]/\X8 x u/\X8 y v:=fun {x y us} h=>by
 cases h with
 |cons r t=>
  cases t with
  |cons q t=>
   cases t
   exact⟨_,_,rfl,r,q⟩
theorem Yg.zero:∀{us:List Value},Yg [] us->us=[]
 |_, .nil=>rfl
theorem Yg.eraseIdx:∀{xs:List V}{us:List Value} (i:Nat),Yg xs us->Yg (xs.eraseIdx i) (us.eraseIdx i)
 |_,_,_, .nil=>.nil
 |_,_,0, .cons _ t=>t
 |_,_,i+1, .cons r t=>.cons r (Yg.eraseIdx i t)
theorem Yg.reverse {xs:List V}{us:List Value}(h:Yg xs us):Yg xs.reverse us.reverse:=by
 induction h with
 |nil=>exact .nil
 |cons r t ih=>rw[List.reverse_cons,List.reverse_cons];exact Yg.append ih (.cons r .nil)
theorem Yg.rep {xs:List V}{us:List Value}(h:Yg xs us):∀k:Nat,Yg (List.replicate k xs).flatten (List.replicate k us).flatten
 |0=>.nil
 |k+1=>by
  rw[List.replicate_succ,List.replicate_succ,List.flatten_cons,List.flatten_cons]
  exact Yg.append h (Yg.rep h k)
theorem Kb {α:Type}:∀(l:List α) (i:Nat),(l.eraseIdx i).length<=l.length
 | [],_=>Nat.le_refl _
 |_::_,0=>Nat.le_succ _
 |_::r,i+1=>Nat.succ_le_succ (Kb r i)
theorem U5 (its:List Value):∀(k:Nat) (acc:List Value),
  List.foldl (λx1 x2=>x1++x2) acc.toArray (List.replicate k its.toArray)=(acc++(List.replicate k its).flatten).toArray
 |0,acc=>by simp
 |k+1,acc=>by
  have e:acc.toArray++its.toArray=(acc++its).toArray:=by simp
  have e2:(acc++its)++(List.replicate k its).flatten=acc++(List.replicate (k+1) its).flatten:=by
   rw[List.replicate_succ,List.flatten_cons,List.append_assoc]
  rw[←e2, ←U5 its k (acc++its), ←e,List.replicate_succ,List.foldl_cons]
section
variable {X:Cx}{pins:List (Addr×Obj)}{σ:St}{H:Hp}{s:Shared}{l b:Addr}{xs ys zs:List V}
theorem Inv.lset {its its':List Value}{n:Nat}{f:Array Value->Array Value}{t':Nat}(I:Inv X pins σ H s)(hH:H l=some (.lst xs))
  (e:s.heap.get? l=some {cls:=.type "list",data:=.seq its.toArray n})(hf:f its.toArray=its'.toArray)(hv:Yg ys its')(hz:ys.length<=sizeLine):
  Inv X pins σ (upd H l (.lst ys)) {s with heap:=s.heap.update l (Obj.mapSeq f),toks:=t'}:=by
 have q:=PySem.IsL.update e f
 rw[hf] at q
 refine I.write (x:=l) (e:=l) (by rw[hH];exact trivial) (.inl rfl) (λb' u hb hu=>(Heap.get?_update_other s.heap (Obj.mapSeq f) (Ne.symm hb)).trans hu) ⟨_,q⟩ ?_
 exact⟨hz,its',_,hv,q⟩
theorem Inv.lnew {its:List Value}{t':Nat}(I:Inv X pins σ H s)(hv:Yg ys its)(hz:ys.length<=sizeLine):
  Inv X pins σ (upd H s.heap.objs.size (.lst ys)) {s with heap:=s.heap.push {cls:=.type "list",data:=.seq its.toArray},toks:=t'}:=
 I.laid (λ_ _ q=>Heap.get?_push_of_some _ q) (Nat.le_refl _) ⟨hz,its,0,hv,Heap.get?_push_size _ rfl⟩
theorem Inv.fresh (I:Inv X pins σ H s):H s.heap.objs.size=none:=I.hok.fresh (Nat.le_refl _)
theorem Inv.lstM (I:Inv X pins σ H s)(hH:H l=some (.lst xs)):xs.length<=sizeLine/\∃(its:List Value) (n:Nat),Yg xs its/\xs.length=its.length/\s.heap.get? l=some {cls:=.type "list",data:=.seq its.toArray n}:=by
 obtain⟨z,its,n,r,e⟩:=I.hok l _ hH
 exact⟨z,its,n,r,r.length,e⟩
theorem Gz {n:Nat}(h:n<=sizeLine):Builtin.List.listTooLong n=false:=by
 unfold Builtin.List.listTooLong
 exact decide_eq_false (by (first|lia|omega))
end
section
variable {X:Cx}
noncomputable def Q4:V->List V->Hp->VK->Prop:=λx vs H Q=>∃ l xs y,x= .ref l/\vs=[y]/\H l=some (.lst xs)/\xs.length<sizeLine/\Q .non (upd H l (.lst (xs++[y])))
theorem X6:MtM X "list.append" Q4:=by
 intro pins s σ H x vs v us Q I rx rv h
 obtain⟨l,xs,y,rfl,rfl,hH,hz,q⟩:=h
 cases rx
 obtain⟨u,rfl,ru⟩:=rv.one
 obtain⟨z,its,n,r,hl,e⟩:=I.lstM hH
 refine call_meets F.slot_list_append ⟨_,e,rfl⟩ F.entry_list_append (F.args_list_append_2 _ _) (PySem.list_append l its.toArray n u (by rw[List.size_toArray];(first|lia|omega))) ⟨e,?_⟩
 refine⟨.non,_,I.lset (its':=its++[u]) hH e (by simp) (r.append (.cons ru .nil)) ?_,rfl,q⟩
 rw[List.length_append,List.length_singleton]
 (first|lia|omega)
noncomputable def KB:V->List V->Hp->VK->Prop:=λx vs H Q=>∃ l b xs zs,x= .ref l/\vs=[.ref b]/\H l=some (.lst xs)/\H b=some (.lst zs)/\xs.length+zs.length<=sizeLine/\Q .non (upd H l (.lst (xs++zs)))
theorem Z4:MtM X "list.extend" KB:=by
 intro pins s σ H x vs v us Q I rx rv h
 obtain⟨l,b,xs,zs,rfl,rfl,hH,hB,hz,q⟩:=h
 cases rx
 obtain⟨u,rfl,ru⟩:=rv.one
 cases ru
 obtain⟨z,its,n,r,hl,e⟩:=I.lstM hH
 obtain⟨z2,its2,n2,r2,hl2,e2⟩:=I.lstM hB
 have hsz:its.toArray.size+its2.toArray.size<=sizeLine:=by rw[List.size_toArray,List.size_toArray];(first|lia|omega)
 have hlong:¬(!its.toArray.isEmpty&&Builtin.List.listTooLong (its.toArray.size+its2.toArray.size))=true:=by
  rw[Gz hsz,Bool.and_false]
  exact Bool.false_ne_true
 refine call_meets F.slot_list_extend ⟨_,e,rfl⟩ F.entry_list_extend (F.args_list_extend_2 _ _)
  (AutoSeq1.list_extend_list_list_0 l its.toArray n b its2.toArray n2 hlong (by rw[List.size_toArray];(first|lia|omega)) (by (first|lia|omega))) ⟨e,e2,?_⟩
 refine⟨.non,_,I.lset (its':=its++its2) hH e (by simp) (r.append r2) ?_,rfl,q⟩
 rw[List.length_append]
 (first|lia|omega)
noncomputable def VL:V->List V->Hp->VK->Prop:=λx vs H Q=>∃ l xs i k y,x= .ref l/\vs=[.int i]/\H l=some (.lst xs)/\ -(2^63)<=i/\i<2^63/\seqIndex? i xs.length=some k/\xs[k]?=some y/\Q y (upd H l (.lst (xs.eraseIdx k)))
theorem QR:MtM X "list.pop" VL:=by
 intro pins s σ H x vs v us Q I rx rv h
 obtain⟨l,xs,i,k,y,rfl,rfl,hH,h1,h2,hk,hy,q⟩:=h
 cases rx
 obtain⟨u,rfl,ru⟩:=rv.one
 obtain⟨t,rfl⟩:=ru
 obtain⟨z,its,n,r,hl,e⟩:=I.lstM hH
 obtain⟨w,hw,rw'⟩:=r.get hy
 refine call_meets F.slot_list_pop ⟨_,e,rfl⟩ F.entry_list_pop (F.args_list_pop_2 _ _)
  (MeetsSeq.list_pop_at l its.toArray n i t k w (fitsIndex_both h1 h2) (by rw[List.size_toArray, ←hl];exact hk) (by rw[←Array.getElem?_toList];exact hw) (by rw[List.size_toArray];(first|lia|omega))) ⟨e,?_⟩
 refine⟨y,_,I.lset (its':=its.eraseIdx k) hH e ?_ (r.eraseIdx k) ?_,rw',q⟩
 ·show its.toArray.eraseIdxIfInBounds k=(its.eraseIdx k).toArray
  rw[List.eraseIdxIfInBounds_toArray]
 ·have:=Kb xs k
  (first|lia|omega)
noncomputable def BH:V->List V->Hp->VK->Prop:=λx vs H Q=>∃ l xs,x= .ref l/\vs=[]/\H l=some (.lst xs)/\Q .non (upd H l (.lst []))
theorem Bd:MtM X "list.clear" BH:=by
 intro pins s σ H x vs v us Q I rx rv h
 obtain⟨l,xs,rfl,rfl,hH,q⟩:=h
 cases rx
 have hus:=rv.zero
 subst hus
 obtain⟨z,its,n,r,hl,e⟩:=I.lstM hH
 refine call_meets F.slot_list_clear ⟨_,e,rfl⟩ F.entry_list_clear (F.args_list_clear_1 _) (AutoSeq1.list_clear_list_0 l its.toArray n (by rw[List.size_toArray];(first|lia|omega))) ⟨e,?_⟩
 exact⟨.non,_,I.lset (its':=[]) (ys:=[]) hH e rfl .nil (Nat.zero_le _),rfl,q⟩
noncomputable def IU:R2:=λx y H Q=>∃ l b xs zs,x= .ref l/\y= .ref b/\H l=some (.lst xs)/\H b=some (.lst zs)/\xs.length+zs.length<=sizeLine/\∀p,H p=none->Q (.ref p) (upd H p (.lst (xs++zs)))
theorem K7:OpR X (binaryOp .Add) IU:=by
 intro pins s σ H x y v u Q I rx ry h
 obtain⟨l,b,xs,zs,rfl,rfl,hH,hB,hz,q⟩:=h
 cases rx
 cases ry
 obtain⟨z,its,n,r,hl,e⟩:=I.lstM hH
 obtain⟨z2,its2,n2,r2,hl2,e2⟩:=I.lstM hB
 refine PySem.P.add_list e e2 ?_ (by rw[List.size_toArray,List.size_toArray];(first|lia|omega))
 have ea:its.toArray++its2.toArray=(its++its2).toArray:=by simp
 rw[ea]
 exact⟨.ref _,_,I.lnew (t':=s.toks) (r.append r2) (by rw[List.length_append];(first|lia|omega)),rfl,q _ I.fresh⟩
noncomputable def LR:R2:=λx y H Q=>∃ l k xs,x= .ref l/\y= .int k/\H l=some (.lst xs)/\ -(2^63)<=k/\k<2^63/\xs.length*k.toNat<=sizeLine/\
 ∀p,H p=none->Q (.ref p) (upd H p (.lst (List.replicate k.toNat xs).flatten))
theorem Ha {α:Type}(xs:List α)(k:Nat):(List.replicate k xs).flatten.length=k*xs.length:=by
 induction k with
 |zero=>simp
 |succ k ih=>rw[List.replicate_succ,List.flatten_cons,List.length_append,ih,Nat.succ_mul,Nat.add_comm]
theorem Fu:OpR X (binaryOp .Mult) LR:=by
 intro pins s σ H x y v u Q I rx ry h
 obtain⟨l,k,xs,rfl,rfl,hH,h1,h2,hz,q⟩:=h
 cases rx
 obtain⟨t,rfl⟩:=ry
 obtain⟨z,its,n,r,hl,e⟩:=I.lstM hH
 have hlen:its.toArray.size*k.toNat<=sizeLine:=by rw[List.size_toArray, ←hl];exact hz
 have hcap:¬its.toArray.size*k.toNat > (2^63-1)/8:=by
  have:(sizeLine:Nat)<=(2^63-1)/8:=by decide
  (first|lia|omega)
 have hfit:¬(!Builtin.List.listFitsIndex k)=true:=by
  rw[fitsIndex_both h1 h2]
  exact Bool.false_ne_true
 have hlong:¬Builtin.List.listTooLong (its.toArray.size*k.toNat)=true:=by
  rw[Gz hlen]
  exact Bool.false_ne_true
 have hnew:List.foldl (λx1 x2=>x1++x2) #[] (List.replicate (if its.toArray.isEmpty=true then 0 else k.toNat) its.toArray)=(List.replicate k.toNat its).flatten.toArray:=by
  have f0:∀m:Nat,List.foldl (λx1 x2=>x1++x2) #[] (List.replicate m its.toArray)=(List.replicate m its).flatten.toArray:=λm=>by
   have:=U5 its m []
   rw[List.nil_append] at this
   exact this
  rw[f0]
  cases its with
  |nil=>simp
  |cons a r'=>rw[if_neg (by simp)]
 refine wpAny_binaryOp_repeat_ref (T:="list") (U:="int") (by decide) ⟨_,e,rfl⟩ (λs'=>typeIs_int s' k t) noFill_list_mul F.fills_int_mul F.slot_int_rmul repeat_list F.slot_int_index.lookup
  (call_meets F.slot_int_rmul (typeIs_int s k t) F.entry_int_rmul (F.args_int_rmul_2 _ _) (int___rmul___int_list k t l its.toArray n)
   ⟨e,rfl,⟨_,e,rfl⟩,call_meets F.slot_list_mul ⟨_,e,rfl⟩ F.entry_list_mul (F.args_list_mul_2 _ _) (AutoListH.list___mul___list_int_3 l its.toArray n k t hfit hcap hlong) ⟨e,?_⟩⟩)
 rw[hnew]
 exact⟨.ref _,_,I.lnew (t':=s.toks) (r.rep k.toNat) (by rw[Ha,Nat.mul_comm];exact hz),rfl,q _ I.fresh⟩
end
section
variable {prog:Program}{w:World}{A:Around}{E:Value->Shared->Prop}{s:Shared}
end
section
variable {X:Cx}
end
end L2
namespace Att
open PySem PySem.W PySem.Calls PyProof.Rows
theorem Vj {P:Params}{h:Heap}:∀(ns:List Int) (vs:List Value),WellAll P h vs (ns.map WData.int)->IntsAre vs ns:=by
 intro ns
 induction ns with
 |nil=>
  intro vs w
  rw[List.map_nil] at w
  cases w
  exact .nil
 |cons n ns ih=>
  intro vs w
  rw[List.map_cons] at w
  cases w with
  |cons a b=>
   cases a
   exact .cons _ _ (ih _ b)
theorem DY {l:OpenLaw}{n:Nat}(hn:l.most=some n){P:Params}{h:Heap}{args:List WData}{vals:List Value}
  (hpre:l.row.toRowW.claim.pre args=true)(hwl:WellAll P h vals args):
  ∃a vs ns,vals=[Value.ref a]/\args=[WData.list (ns.map WData.int)]/\h.get? a=some {cls:=.type "list",data:=.seq vs.toArray}/\IntsAre vs ns/\ns.length<=n:=by
 have hsh:WShape.hasAll [] args [.list .int]=true:=(pre_splitW hpre).1
 have hc:l.pre.holds [] {args:=args}=true:=(pre_splitW hpre).2
 obtain⟨d,r,rfl,h1,h2⟩:=hasAllW_cons hsh
 obtain rfl:=hasAllW_nil h2
 obtain⟨xs,rfl,h3⟩:=hasW_list h1
 obtain⟨ns,rfl⟩:=items_int h3
 have hlen:ns.length<=n:=by
  unfold OpenLaw.pre at hc
  have h4:(WTm.not (.lt (.lit (.int (n:Int))) (.len (.arg 0)))).holds [] {args:=[.list (ns.map .int)]}=true:=by
   have h4:=(holds_andW hc).1
   rw[hn] at h4
   exact h4
  have h5:=condW_of h4 (w_not (w_lt w_lit (w_len_list (w_arg rfl))))
  rw[List.length_map] at h5
  refine Nat.le_of_not_lt λq=>?_
  have q':(n:Int)<((ns.length:Nat):Int):=by (first|lia|omega)
  first
   | (rw[decide_eq_true q'] at h5;exact absurd h5 (by decide))
   | (simp at h5;(first|lia|omega))
 cases hwl with
 |cons w1 w2=>
  cases w2
  cases w1 with
  |list ho hall=>exact⟨_,_,ns,rfl,rfl,ho,Vj ns _ hall,hlen⟩
theorem DV (l:OpenLaw)(args:List WData):l.row.toRowW.claim.post args (.bool true) args=true:=
 postW_of (r:=l.row.toRowW) (X:=(true==true))
  (show WShape.has [] (.bool true) .bool=true by first |rfl |decide |simp[WShape.has,WShape.arms,WShape.armsAll])
  (show(WTm.eq .res (.lit (.bool true))).value [] {args:=args,res:=some (.bool true),after:=args}=some (.bool (true==true)) from w_eq_bool (w_res rfl) w_lit) rfl
theorem attach_call {l:OpenLaw}{n:Nat}{q:Program}{loose:List Str}{XP:(Str->Option Value)->Heap->Prop}{YP:World->Heap->Prop}{d:DefRec}
  (hn:l.most=some n)(hdf:d.params.defaults=[])
  (call:∀(w:World) (s₀ s₁:Shared) (mg mb:Str->Option Value) (fa:Addr) (o:Obj) (pm cd doc:Value) (a:Addr) (vs:List Value) (ns:List Int),
   Ground q loose [] XP w s₀ mg mb s₁.heap->YP w s₁.heap->
   s₁.heap.get? fa=some o->o.data= .func (docDef d.name d.params d.body d.scope pm cd doc)->s₁.heap.CodeRec cd d.name->mg d.name=some (.ref fa)->
   s₁.heap.get? a=some {cls:=.type "list",data:=.seq vs.toArray}->IntsAre vs ns->ns.length<=n->s₁.gens= #[]->
   codeAny (model l.prog w) callerA (.call (.ref fa) ⟨[.ref a],[]⟩) (λr s'=>r= .ok (.ret (.bool true))/\OldK s₁.heap s'.heap/\s'.os=s₁.os/\AllBare s'.gens) s₁):
  WalkO q loose XP YP l.row.toRowW d [] (λf vs=>PySem.call f vs):=by
 intro w s₀ s₁ mg mb G Y fa o pm cd doc dV kV ho hd hcd hD hmg hg args vals as hpre hlay hrd hwl hlo
 obtain rfl:dV= .none:=Dflts.none hD hdf
 obtain rfl:kV= .none:=Dflts.noKw hD
 obtain⟨a,vs,ns,rfl,rfl,hobj,hints,hlen⟩:=DY hn hpre hwl
 refine enter_call (codeAny_mono (call w s₀ s₁ mg mb fa o pm cd doc a vs ns G Y ho (fd_plain hd) hcd hmg hobj hints hlen hg) λr s' hq=>?_)
 obtain⟨rfl,h2,h3,h4⟩:=hq
 exact⟨.inl ⟨.bool true, .bool true,[],rfl,λ_=>rfl, .bool true,DV l _,λ_=>⟨List.Pairwise.nil,λ_ hm=>(nomatch hm)⟩⟩,h2,h3,h4⟩
section
variable {prog:Program}{w:World}{A:Around}{E:Value->Shared->Prop}{s:Shared}{K:Frag}
noncomputable def LE (h:Heap)(L d:Addr):List (Addr×Obj):=(List.range h.objs.size).filterMap λa=>if a=L∨a=d then none else(h.get? a).map λo=>(a,o)
end
end Att
namespace L2
open PySem PySem.Spec PyProof.Rows
theorem DE:∀{vs:List Value}{ns:List Int},IntsAre vs ns->Yg (ns.map V.int) vs:=λp=>by
 induction p with
 |nil=>exact .nil
 |cons n t _ ih=>exact .cons ⟨t,rfl⟩ ih
noncomputable def Ln (H:Hp):Prop:=∀ b,H b=none∨∃o xs,H b=some (.frz o (.lst xs))
theorem CL {P:Program}{w:World}{K:PySem.W.Frag}{mg mb:Str->Option Value}{CX:CXT}{k:Nat}{fa a:Addr}{fd:FuncData}{x:Str}{sp:Sp}{s₁:Shared}{vs:List Value}{ns:List Int}
  (KX:K.In s₁.heap)(hns:s₁.heap.Ns mainGlobals mg)(hb:s₁.heap.Ns builtinsNs mb)(hbb:∀x:Str,x≠ "__name__" ->mb x=bootBuiltins x)(hlim:s₁.heap.NoLimit)(hg:s₁.gens= #[])
  (ha:s₁.heap.get? a=some {cls:=.type "list",data:=.seq vs.toArray})(hi:IntsAre vs ns)(hl:ns.length<=sizeLine)(hr:Room k callerA)
  (F:∀base:Heap,K.In base->base.Ns mainGlobals mg->FnOk P w K mg base CX k fa fd [x] sp)(hbind:∀(s:Shared) (u:Value),BindsTo s fd ⟨[u],[]⟩ [(x,u)])
  (hsp:∀H:Hp,Ln H->SqL K H a (ns.map V.int)->sp [.ref a] H (λv _=>v= .bl true) λ_ _ _=>False)
  (hCX:∀H e s',CX [] H s₁ (λ_ _ _=>False) e s'->False):
  codeAny (model P w) callerA (.call (.ref fa) ⟨[.ref a],[]⟩) (λr s'=>r= .ok (.ret (.bool true))/\OldK s₁.heap s'.heap/\s'.os=s₁.os/\AllBare s'.gens) s₁:=by
 have rv:=DE hi
 have lenV:=hi.length
 -- from an abstract heap in which nothing but the script may be tracked
 have core:∀H:Hp,Ln H->SqL K H a (ns.map V.int)->HOk P w H s₁.heap->(∀b,H b≠none->b=a)->(H a≠none->K.lookup a=none)->
   codeAny (model P w) callerA (.call (.ref fa) ⟨[.ref a],[]⟩) (λr s'=>r= .ok (.ret (.bool true))/\OldK s₁.heap s'.heap/\s'.os=s₁.os/\AllBare s'.gens) s₁:=by
  intro H hO hS hok hA hK
  have base_of:∀{b:Addr}{o:Obj},s₁.heap.get? b=some o->H b=none->(DZ s₁.heap H).get? b=some o:=λe n=>Gq e n
  have noA:∀{b:Addr}{o:Obj}{es:Array DictEntry}{ep:Nat},s₁.heap.get? b=some o->o.data= .dict es ep->H b=none:=fun {b o es ep} e d=>by
   cases q:H b with
   |none=>rfl
   |some u=>
    have e':b=a:=hA b (by rw[q];simp)
    subst e'
    rw[ha] at e;cases e
    have d':Data.seq vs.toArray _=Data.dict es ep:=d
    cases d'
  have nsK:∀{b:Addr}{m:Str->Option Value},s₁.heap.Ns b m->(DZ s₁.heap H).Ns b m:=fun {b m} ⟨o,es,ep,e,d,r⟩=>⟨o,es,ep,base_of e (noA e d),d,r⟩
  have hKb:K.In (DZ s₁.heap H):=λb o e=>base_of (KX b o e) (by
   cases q:H b with
   |none=>rfl
   |some u=>
    have e':b=a:=hA b (by rw[q];simp)
    subst e'
    rw[hK (by rw[q];simp)] at e;cases e)
  have hM:Mod K mg (DZ s₁.heap H):=⟨hKb,nsK hns,⟨mb,nsK hb,hbb⟩,let ⟨mc,h1,h2⟩:=hlim;⟨mc,nsK h1,h2⟩⟩
  have e0:Env0 P w K mg (DZ s₁.heap H) callerA [] s₁ H:=⟨rfl,hM,λb o e=>Dr e,Nat.le_of_eq (Dj _ _),trivial,λb hb=>absurd (show b∈([]:List Addr) from hb) (by simp),hok, .of_eq hg⟩
  refine codeAny_mono ((F _ hKb (nsK hns)).run callerA [] s₁ H ⟨[.ref a],[]⟩ [.ref a] [.ref a] _ _ hr e0 (hbind s₁ (.ref a)) (.cons rfl .nil) (hsp H hO hS)) λr s' h=>?_
  cases r with
  |error e=>exact(hCX H e s' h).elim
  |ok fl=>
   cases fl with
   |next=>exact False.elim h
   |brk=>exact False.elim h
   |cont=>exact False.elim h
   |ret u=>
    obtain⟨v,H',os,bare,un,hok',r',q⟩:=h
    have q':v= .bl true:=q
    subst q'
    obtain rfl:u=Value.bool true:=r'
    refine⟨rfl,OldK.of_keep λb o e=>?_,os,bare⟩
    cases q:H b with
    |none=>exact un.keep b o e q (by intro z;exact absurd (show b∈([]:List Addr) from z) (by simp)) (by simp)
    |some u=>
     rcases hO b with z | ⟨ob,xs,z⟩
     ·rw[q] at z;cases z
     ·have z2:=un.frzs b ob _ z
      obtain⟨e1,_⟩:=hok b _ z
      obtain⟨e2,_⟩:=hok' b _ z2
      rw[e] at e1;cases e1
      exact e2
 cases hk:K.lookup a with
 |some o=>
  -- the script is one of the module's own objects
  have e:=KX a o hk
  rw[ha] at e
  cases e
  refine core (λ_=>none) (λ_=>.inl rfl) (.inr ⟨_,vs.toArray,_,hk,rfl,rfl,rfl,by rw[List.size_toArray,lenV];exact hl,by simpa using rv⟩) (λb u z=>by have z':(none:Option HO)=some u:=z;cases z') (λb z=>absurd rfl z) λz=>absurd rfl z
 |none=>
  refine core (λb=>if b=a then some (.frz {cls:=.type "list",data:=.seq vs.toArray} (.lst (ns.map V.int))) else none) (λb=>?_) (.inl (.inr ⟨{cls:=.type "list",data:=.seq vs.toArray},if_pos rfl⟩)) (λb u z=>?_) (λb z=>?_) λ_=>hk
  ·by_cases hb:b=a
   ·exact .inr ⟨_,_,if_pos hb⟩
   ·exact .inl (if_neg hb)
  ·by_cases hb:b=a
   ·have z':=(if_pos hb).symm.trans z
    cases z'
    subst hb
    exact⟨ha,by rw[List.length_map];exact hl,vs,_,rv,ha⟩
   ·have z':=(if_neg hb).symm.trans z
    cases z'
  ·by_cases hb:b=a
   ·exact hb
   ·exact absurd (if_neg hb) z
theorem Ek {l:PySem.W.OpenLaw}{n k:Nat}{q:Program}{loose:List Str}{XP:(Str->Option Value)->Heap->Prop}{YP:World->Heap->Prop}{d:DefRec}{K:Params->PySem.W.Frag}{CX:World->CXT}{sp:World->Sp}{x:Str}
  (hn:l.most=some n)(hn2:n<=sizeLine)(hdf:d.params.defaults=[])(hr:Room k callerA)
  (hY:∀(w:World) (h:Heap),YP w h->(K w.params).In h)
  (F:∀(w:World) (mg:Str->Option Value) (fa:Addr) (h:Heap),(K w.params).In h->h.Ns mainGlobals mg->mg d.name=some (.ref fa)->
   ∃fd:FuncData,(∀(s:Shared) (u:Value),BindsTo s fd ⟨[u],[]⟩ [(x,u)])/\
    ∀base:Heap,(K w.params).In base->base.Ns mainGlobals mg->FnOk l.prog w (K w.params) mg base (CX w) k fa fd [x] (sp w))
  (hsp:∀(w:World) (H:Hp) (a:Addr) (ns:List Int),ns.length<=n->Ln H->SqL (K w.params) H a (ns.map V.int)->sp w [.ref a] H (λv _=>v= .bl true) λ_ _ _=>False)
  (hCX:∀(w:World) (H:Hp) (s:Shared) (e:Value) (s':Shared),CX w [] H s (λ_ _ _=>False) e s'->False):
  PySem.W.WalkO q loose XP YP l.row.toRowW d [] (λf vs=>PySem.call f vs):=by
 refine Att.attach_call hn hdf λw s₀ s₁ mg mb fa o pm cd doc a vs ns G Y ho hd hcd hmg hobj hints hlen hg=>?_
 have KX:=hY w _ Y
 obtain⟨fd,hb,hF⟩:=F w mg fa _ KX G.T.g hmg
 exact CL KX G.T.g G.T.b G.T.builtins G.T.nolimit hg hobj hints (Nat.le_trans hlen hn2) hr hF hb (λH hO hS=>hsp w H a ns hlen hO hS) λH e s'=>hCX w H s₁ e s'
noncomputable def YH (s:Stmt):Arguments:=match s with
 | .FunctionDef _ a _ _ _ _ _ _ _ _=>a
 |_=>{posonlyargs:=[],args:=[],vararg:=none,kwonlyargs:=[],kw_defaults:=[],kwarg:=none,defaults:=[]}
noncomputable def Yi (s:Stmt):List Stmt:=match s with
 | .FunctionDef _ _ b _ _ _ _ _ _ _=>b
 |_=>[]
noncomputable def Xk (s:Stmt):Scope:=match s with
 | .FunctionDef _ _ _ _ _ _ sc _ _ _=>sc
 |_=>{kind:=.function,names:=[],isGenerator:=false,isCoroutine:=false}
noncomputable abbrev CX0:CXT:=λ_ _ _ _ _ _=>False
noncomputable abbrev E0:XK:=λ_ _ _=>False
theorem Lu {X:Cx}:VV CX0 X E0:=λ_ _ _ _ _ _ _ h=>h.elim
structure Fun (K:PySem.W.Frag)(x qual:Str)(st:Stmt)(f:Addr)(fd:FuncData):Prop where
 ex:∃(oc:Value) (od:Option Addr) (kV doc pm:Value) (an:Option Addr) (cdv ct:Value) (osl:Array (Option Value)),
  fd=PySem.W.fnOf x qual (YH st) (Yi st) (Xk st) .none kV doc pm an cdv ct/\K.lookup f=some ⟨oc,od, .func fd,osl⟩/\PySem.W.codeIn K cdv qual=true
 kp:PySem.W.keepIn K (.ref f)=true
section
variable {P:Program}{w:World}{K:PySem.W.Frag}{mg:Str->Option Value}{base:Heap}
theorem Fun.ok {x qual:Str}{st:Stmt}{f:Addr}{fd:FuncData}{N ps:List Str}{k:Nat}{sp:Sp}(F:Fun K x qual st f fd)(S:FnScope N ps (Xk st))(len:∀vs H Q E,sp vs H Q E->vs.length=ps.length)
  (hbody:∀(cdv:Value) (A:Around) (outer:List Env) (s:Shared) (H:Hp) (vs:List V) (Q:VK) (E:XK),Room k (A.deeper (envOfC qual (Xk st) s.heap.objs.size f cdv))->sp vs H Q E->
   ∃t,PSs (G0 CX0 P w K mg base N qual (Xk st) f cdv A outer s H E).nox (Yi st) t/\t {nx:=λ_ H'=>Q .non H',rt:=Q} (Vw N vs) H):FnOk P w K mg base CX0 (k+1) f fd ps sp:=by
 obtain⟨oc,od,kV,doc,pm,an,cdv,ct,osl,rfl,lk,hcd⟩:=F.ex
 refine Ej lk hcd S len λA outer s H vs Q E hr hsp=>?_
 obtain⟨t,h,q⟩:=hbody cdv A outer s H vs Q E hr hsp
 exact⟨t,h.nox,q⟩
theorem Fun.binds {x qual:Str}{st:Stmt}{f:Addr}{fd:FuncData}{ps:List Str}(F:Fun K x qual st f fd)
  (h:∀(kV doc pm:Value) (an:Option Addr) (cdv ct:Value) (us:List Value),us.length=ps.length->bindArgs (PySem.W.fnOf x qual (YH st) (Yi st) (Xk st) .none kV doc pm an cdv ct) ⟨us,[]⟩=pure (ps.zip us)):Vt K fd ps []:=by
 obtain⟨oc,od,kV,doc,pm,an,cdv,ct,osl,rfl,lk,hcd⟩:=F.ex
 exact .all (h kV doc pm an cdv ct)
theorem Qm {x qual:Str}{st:Stmt}{f:Addr}{oc:Value}{od an:Option Addr}{osl:Array (Option Value)}{kV doc pm cdv ct:Value}(l:K.lookup f=some ⟨oc,od, .func (PySem.W.fnOf x qual (YH st) (Yi st) (Xk st) .none kV doc pm an cdv ct),osl⟩)
  (c:PySem.W.codeIn K cdv qual=true)(k:PySem.W.keepIn K (.ref f)=true):Fun K x qual st f (PySem.W.fnOf x qual (YH st) (Yi st) (Xk st) .none kV doc pm an cdv ct):=⟨⟨oc,od,kV,doc,pm,an,cdv,ct,osl,rfl,l,c⟩,k⟩
end
theorem Ze {A:Around}{k:Nat}(hr:Room k A):A.units+1<cLine:=Nat.lt_of_le_of_lt (Nat.add_le_add_left (by decide:1<=64) _) hr.units
section
variable {X:Cx}
theorem pv (i:Nat){x:Str}{pos:Pos}(hN:X.N[i]?=some x:=by rfl)(hv:Vis X.env.scope x:=by first |exact Or.inl rfl |exact Or.inr (Or.inl rfl) |exact Or.inr (Or.inr rfl))(hd:(x==("__debug__":Str))=false:=by decide)
  (hcd:(x==("__classdict__":Str))=false:=by decide):PE X (.Name x pos) (QD i):=HP hN hv hd hcd
end
noncomputable def Xw (H H':Hp):Prop:=∀ b o,H b=some o->H' b=some o
theorem Xw.refl (H:Hp):Xw H H:=λ_ _ h=>h
theorem Xw.trans {H H1 H2:Hp}(a:Xw H H1)(b:Xw H1 H2):Xw H H2:=λc o h=>b c o (a c o h)
theorem Xw.free {H H':Hp}(e:Xw H H'){l:Addr}(h:H' l=Option.none):H l=Option.none:=by
 cases q:H l with
 |none=>rfl
 |some o=>
  rw[e l o q] at h
  cases h
theorem Xw.seq {K:PySem.W.Frag}{H H':Hp}{a:Addr}{xs:List V}(e:Xw H H')(h:SqL K H a xs):SqL K H' a xs:=by
 rcases h with(h | ⟨o,h⟩) |h
 ·exact .inl (.inl (e _ _ h))
 ·exact .inl (.inr ⟨o,e _ _ h⟩)
 ·exact .inr h
section
variable {κ:Type}[DecidableEq κ]
noncomputable def Kh (kvs:List (κ×V))(k:κ):Option V:=(kvs.find? λkv=>decide (kv.1=k)).map (·.2)
noncomputable def Vh (kvs:List (κ×V))(k:κ)(v:V):List (κ×V):=
 if(kvs.any λkv=>decide (kv.1=k))=true then kvs.map (λkv=>if kv.1=k then(kv.1,v) else kv) else kvs++[(k,v)]
noncomputable def HX (kvs:List (κ×V))(k:κ):List (κ×V):=kvs.filter λkv=>decide (kv.1≠k)
theorem JA {p:κ×V}{r:List (κ×V)}{k:κ}(e:p.1=k):Kh (p::r) k=some p.2:=by simp[Kh,List.find?_cons,e]
theorem JB {p:κ×V}{r:List (κ×V)}{k:κ}(e:¬p.1=k):Kh (p::r) k=Kh r k:=by simp[Kh,List.find?_cons,e]
theorem Gd (k:κ):∀kvs:List (κ×V),(kvs.any λkv=>decide (kv.1=k))=(Kh kvs k).isSome
 | []=>rfl
 |p::r=>by
  rw[List.any_cons]
  by_cases e:p.1=k
  ·simp only[JA e,decide_eq_true e,Bool.true_or,Option.isSome_some]
  ·rw[JB e,decide_eq_false e,Bool.false_or];exact Gd k r
theorem Vb (kvs:List (κ×V))(k:κ)(v:V):(Vh kvs k v).length<=kvs.length+1:=by
 unfold Vh
 split
 ·rw[List.length_map];(first|lia|omega)
 ·rw[List.length_append,List.length_cons,List.length_nil];(first|lia|omega)
theorem KC.isSome_eq {o:Option V}{u:Option Value}(r:KC o u):o.isSome=u.isSome:=by
 cases o with
 |none=>cases u with
  |none=>rfl
  |some _=>exact(show False from r).elim
 |some _=>cases u with
  |none=>exact(show False from r).elim
  |some _=>rfl
theorem KC.getD {o:Option V}{u:Option Value}{d:V}{d':Value}(r:KC o u)(rd:X8 d d'):X8 (o.getD d) (u.getD d'):=by
 cases o with
 |none=>cases u with
  |none=>exact rd
  |some _=>exact(show False from r).elim
 |some _=>cases u with
  |none=>exact(show False from r).elim
  |some _=>exact r
theorem KV.val {kvs:List (κ×V)}{vs:List (κ×Value)}(r:KV kvs vs)(k:κ):KC (Kh kvs k) (valueAt vs k):=by
 unfold KV at r
 induction r with
 |nil=>exact True.intro
 | @cons p q ps qs h t ih=>
  obtain⟨h1,h2⟩:=h
  by_cases e:p.1=k
  ·have e':q.1=k:=h1.symm.trans e
   have b:valueAt (q::qs) k=some q.2:=by simp[valueAt,List.find?_cons,e']
   rw[JA e,b];exact h2
  ·have e':¬q.1=k:=λz=>e (h1.trans z)
   have b:valueAt (q::qs) k=valueAt qs k:=by simp[valueAt,List.find?_cons,e']
   rw[JB e,b];exact ih
theorem KV.any {kvs:List (κ×V)}{vs:List (κ×Value)}(r:KV kvs vs)(k:κ):(kvs.any λkv=>decide (kv.1=k))=vs.any λkv=>decide (kv.1=k):=by
 unfold KV at r
 induction r with
 |nil=>rfl
 |cons h t ih=>rw[List.any_cons,List.any_cons,ih,h.1]
theorem KV.repl {kvs:List (κ×V)}{vs:List (κ×Value)}(r:KV kvs vs)(k:κ){y:V}{u:Value}(ry:X8 y u):
  KV (kvs.map λkv=>if kv.1=k then(kv.1,y) else kv) (vs.map λkv=>if kv.1=k then(kv.1,u) else kv):=by
 unfold KV at r⊢
 induction r with
 |nil=>exact .nil
 | @cons p q ps qs h t ih=>
  rw[List.map_cons,List.map_cons]
  refine .cons ?_ ih
  obtain⟨h1,h2⟩:=h
  by_cases e:p.1=k
  ·rw[if_pos e,if_pos (h1.symm.trans e)];exact⟨h1,ry⟩
  ·rw[if_neg e,if_neg (λz=>e (h1.trans z))];exact⟨h1,h2⟩
theorem KV.put {kvs:List (κ×V)}{vs:List (κ×Value)}(r:KV kvs vs)(k:κ){y:V}{u:Value}(ry:X8 y u):KV (Vh kvs k y) (stored vs k u):=by
 unfold Vh stored
 rw[r.any k]
 by_cases e:(vs.any λkv=>decide (kv.1=k))=true
 ·rw[if_pos e,if_pos e];exact r.repl k ry
 ·rw[if_neg e,if_neg e];exact Paired.snoc r ⟨rfl,ry⟩
theorem KV.drop {kvs:List (κ×V)}{vs:List (κ×Value)}(r:KV kvs vs)(k:κ):KV (HX kvs k) (without vs k):=by
 unfold KV at r⊢
 unfold HX without
 induction r with
 |nil=>exact .nil
 | @cons p q ps qs h t ih=>
  obtain⟨h1,h2⟩:=h
  rw[List.filter_cons,List.filter_cons]
  by_cases e:p.1=k
  ·have a:¬decide (p.1≠k)=true:=by simp[e]
   have b:¬decide (q.1≠k)=true:=by simp[h1.symm.trans e]
   rw[if_neg a,if_neg b];exact ih
  ·have e':¬q.1=k:=λz=>e (h1.trans z)
   have a:decide (p.1≠k)=true:=by simp[e]
   have b:decide (q.1≠k)=true:=by simp[e']
   rw[if_pos a,if_pos b];exact .cons ⟨h1,h2⟩ ih
theorem KV.keys {kvs:List (κ×V)}{vs:List (κ×Value)}(r:KV kvs vs):kvs.map (·.1)=vs.map (·.1):=by
 unfold KV at r
 induction r with
 |nil=>rfl
 |cons h t ih=>rw[List.map_cons,List.map_cons,ih,h.1]
theorem KV.length {kvs:List (κ×V)}{vs:List (κ×Value)}(r:KV kvs vs):kvs.length=vs.length:=Paired.length r
end
theorem GK {P:Program}{w:World}{k:Key}{u:Value}(r:X8 (kV k) u):(Yp P w).is k u=true:=by
 cases k with
 |inl i=>obtain⟨t,e⟩:=(show ∃t,u=Value.int i t from r);subst e;exact Kw P w i t
 |inr x=>obtain⟨t,e⟩:=(show ∃t,u=Value.str x t from r);subst e;exact Kz P w x t
theorem UH {P:Program}{w:World}:∀{ks:List Key}{us:List Value},Yg (ks.map kV) us->ItemsAre (Yp P w) ks us
 | [],_,r=>by rw[List.map_nil] at r;cases r;exact .nil
 |k::ks,_,r=>by
  rw[List.map_cons] at r
  cases r with
  |cons h t=>exact .cons (GK h) (UH t)
noncomputable abbrev KT (H:Hp):List (List Key×V)->List (List Key×Addr×Value)->Prop:=Paired λp q=>p.1=q.1/\H q.2.1=some (.tup (p.1.map kV))/\X8 p.2 q.2.2
theorem KT.val {H:Hp}{kvs:List (List Key×V)}{xs:List (List Key×Addr×Value)}(r:KT H kvs xs)(k:List Key):KC (Kh kvs k) ((atKey xs k).map (·.2)):=by
 induction r with
 |nil=>exact True.intro
 | @cons p q ps qs h t ih=>
  obtain⟨h1,_,h2⟩:=h
  by_cases e:p.1=k
  ·have e':q.1=k:=h1.symm.trans e
   have b:atKey (q::qs) k=some q.2:=by simp[atKey,List.find?_cons,e']
   rw[JA e,b];exact h2
  ·have e':¬q.1=k:=λz=>e (h1.trans z)
   have b:atKey (q::qs) k=atKey qs k:=by simp[atKey,List.find?_cons,e']
   rw[JB e,b];exact ih
theorem KT.repl {H:Hp}{kvs:List (List Key×V)}{xs:List (List Key×Addr×Value)}(r:KT H kvs xs)(k:List Key){y:V}{u:Value}(ry:X8 y u):
  KT H (kvs.map λkv=>if kv.1=k then(kv.1,y) else kv) (xs.map (putAt k u)):=by
 induction r with
 |nil=>exact .nil
 | @cons p q ps qs h t ih=>
  rw[List.map_cons,List.map_cons]
  refine .cons ?_ ih
  obtain⟨h1,h2,h3⟩:=h
  unfold putAt
  by_cases e:p.1=k
  ·rw[if_pos e,if_pos (h1.symm.trans e)];exact⟨h1,h2,ry⟩
  ·rw[if_neg e,if_neg (λz=>e (h1.trans z))];exact⟨h1,h2,h3⟩
theorem KT.put {H:Hp}{kvs:List (List Key×V)}{xs:List (List Key×Addr×Value)}(r:KT H kvs xs)(k:List Key){b:Addr}{y:V}{u:Value}(hb:H b=some (.tup (k.map kV)))(ry:X8 y u):
  KT H (Vh kvs k y) (storedH xs k b u):=by
 have e:(kvs.any λkv=>decide (kv.1=k))=(atKey xs k).isSome:=by
  rw[Gd,(r.val k).isSome_eq,Option.isSome_map]
 unfold Vh storedH
 rw[e]
 by_cases q:(atKey xs k).isSome=true
 ·rw[if_pos q,if_pos q];exact r.repl k ry
 ·rw[if_neg q,if_neg q];exact Paired.snoc r ⟨rfl,hb,ry⟩
theorem KT.keeps {H H':Hp}{kvs:List (List Key×V)}{xs:List (List Key×Addr×Value)}(r:KT H kvs xs)(ht:∀b ys,H b=some (.tup ys)->H' b=some (.tup ys)):KT H' kvs xs:=
 Paired.mapP r λ_ _ z=>⟨z.1,ht _ _ z.2.1,z.2.2⟩
section
variable {P:Program}{w:World}{H:Hp}{h:Heap}{a:Addr}
theorem Ho {u:HO}(ok:HOk P w H h)(e:Rd H a u):YB P w H h a u:=e.ok ok
theorem G9 {kvs:List (Key×V)}(ok:HOk P w H h)(e:Rd H a (.dK kvs)):kvs.length<=sizeLine/\(a==sysModules)=false/\∃vs,KV kvs vs/\h.DictOf (Yp P w) a vs:=
 show YB P w H h a (.dK kvs) from Ho ok e
theorem I9 {kvs:List (Key×V)}(ok:HOk P w H h)(e:H a=some (.dK kvs)):kvs.length<=sizeLine/\(a==sysModules)=false/\∃vs,KV kvs vs/\h.DictOf (Yp P w) a vs:=G9 ok (.inl e)
theorem VP {ks:List Key}(ok:HOk P w H h)(e:H a=some (.tup (ks.map kV))):(tupleKind (Yp P w)).is h ks a:=by
 obtain⟨_,its,r,o,h1,h2,n,h3⟩:=(show YB P w H h a (.tup (ks.map kV)) from ok a _ e)
 exact⟨o,its.toArray,n,h1,h2.1,h3,by simpa using UH r⟩
theorem DK {kvs:List (List Key×V)}(ok:HOk P w H h)(e:Rd H a (.dT kvs)):kvs.length<=sizeLine/\(a==sysModules)=false/\
  ∃xs,KT H kvs xs/\h.DictOfH (tupleKind (Yp P w)) a xs:=by
 obtain⟨z,y,xs,r,o,es,ep,h1,h2,h3,h4,h5⟩:=(show YB P w H h a (.dT kvs) from Ho ok e)
 refine⟨z,y,xs,r,o,es,ep,h1,h2,h3,h4,λx hx=>?_,h5⟩
 have all:∀{l:List (List Key×V)}{m:List (List Key×Addr×Value)},KT H l m->∀x∈m,(tupleKind (Yp P w)).is h x.1 x.2.1:=by
  intro l m q
  induction q with
  |nil=>intro x hx;exact nomatch hx
  | @cons p q ps qs hq t ih=>
   intro x hx
   rcases List.mem_cons.mp hx with e |hx
   ·subst e
    exact VP ok (by rw[←hq.1];exact hq.2.1)
   ·exact ih x hx
 exact all r x hx
theorem Lf {kvs:List (List Key×V)}(ok:HOk P w H h)(e:H a=some (.dT kvs)):kvs.length<=sizeLine/\(a==sysModules)=false/\
  ∃xs,KT H kvs xs/\h.DictOfH (tupleKind (Yp P w)) a xs:=DK ok (.inl e)
end
noncomputable def Dv (H:Hp)(a:Addr)(y:V)(r:Option V):Prop:=
 (∃kvs k,Rd H a (.dK kvs)/\y=kV k/\r=Kh kvs k)∨∃kvs k b,Rd H a (.dT kvs)/\y= .ref b/\H b=some (.tup (k.map kV))/\r=Kh kvs k
noncomputable def He (H:Hp)(a:Addr)(y v:V)(H':Hp):Prop:=
 (∃kvs k,H a=some (.dK kvs)/\y=kV k/\kvs.length<sizeLine/\H'=upd H a (.dK (Vh kvs k v)))∨
 ∃kvs k b,H a=some (.dT kvs)/\y= .ref b/\H b=some (.tup (k.map kV))/\kvs.length<sizeLine/\H'=upd H a (.dT (Vh kvs k v))
theorem Dv.k {H:Hp}{a:Addr}{kvs:List (Key×V)}{k:Key}(e:H a=some (.dK kvs)):Dv H a (kV k) (Kh kvs k):=.inl ⟨kvs,k, .inl e,rfl,rfl⟩
theorem Dv.t {H:Hp}{a b:Addr}{kvs:List (List Key×V)}{k:List Key}(e:H a=some (.dT kvs))(eb:H b=some (.tup (k.map kV))):Dv H a (.ref b) (Kh kvs k):=.inr ⟨kvs,k,b, .inl e,rfl,eb,rfl⟩
theorem He.k {H:Hp}{a:Addr}{kvs:List (Key×V)}{k:Key}{v:V}(e:H a=some (.dK kvs))(hl:kvs.length<sizeLine):He H a (kV k) v (upd H a (.dK (Vh kvs k v))):=.inl ⟨kvs,k,e,rfl,hl,rfl⟩
theorem He.t {H:Hp}{a b:Addr}{kvs:List (List Key×V)}{k:List Key}{v:V}(e:H a=some (.dT kvs))(eb:H b=some (.tup (k.map kV)))(hl:kvs.length<sizeLine):
  He H a (.ref b) v (upd H a (.dT (Vh kvs k v))):=.inr ⟨kvs,k,b,e,rfl,eb,hl,rfl⟩
section
variable {X:Cx}{pins:List (Addr×Obj)}{σ:St}{H:Hp}{s:Shared}{a:Addr}{y v:V}{u r:Value}{o:Option V}{A:Around}{E:Value->Shared->Prop}
theorem Inv.big (I:Inv X pins σ H s):sysModules<s.heap.objs.size:=by
 have h:mainGlobals<s.heap.objs.size:=(I.mod.glob.keeps I.bk).lt
 exact Nat.lt_trans (by decide) h
theorem Fz {Q:Value->Shared->Prop}(hu:A.units+1<cLine)(I:Inv X pins σ H s)(g:Dv H a y (some v))(ry:X8 y u)(h:∀w' s',Inv X pins σ H s'->X8 v w'->Q w' s'):
  wpAny (model X.prog X.w) A (getItem (.ref a) u) Q E s:=by
 rcases g with⟨kvs,k,e,ey,l⟩ | ⟨kvs,k,b,e,ey,eb,l⟩
 ·subst ey
  obtain⟨z,hd,vs,rel,dd⟩:=G9 I.hok e
  obtain⟨w',hw,rw'⟩:=KC.some_of (v:=v) (o:=valueAt vs k) (by rw[l];exact rel.val k)
  exact wpAny_getItem_of (GK ry) dd.mapOf hw (h w' _ (I.tok _) rw')
 ·subst ey
  cases(show u=Value.ref b from ry)
  obtain⟨z,hd,xs,rel,dd⟩:=DK I.hok e
  obtain⟨w',hw,rw'⟩:=KC.some_of (v:=v) (o:=(atKey xs k).map (·.2)) (by rw[l];exact rel.val k)
  obtain⟨p,hp,hp2⟩:=Option.map_eq_some_iff.mp hw
  refine wpAny_getItem_heap (tupleKind_room_in1 hu) (VP I.hok eb) dd hp ?_
  rw[hp2]
  exact h w' _ (I.tok _) rw'
theorem LY {Q:Value->Shared->Prop}(hu:A.units+1<cLine)(I:Inv X pins σ H s)(g:Dv H a y o)(ry:X8 y u)(h:∀s',Inv X pins σ H s'->Q (.bool o.isSome) s'):
  wpAny (model X.prog X.w) A (compareOp .In u (.ref a)) Q E s:=by
 rcases g with⟨kvs,k,e,ey,l⟩ | ⟨kvs,k,b,e,ey,eb,l⟩
 ·subst ey
  obtain⟨z,hd,vs,rel,dd⟩:=G9 I.hok e
  refine wpAny_in_of (GK ry) hd dd.mapOf ?_
  rw[←(rel.val k).isSome_eq, ←l]
  exact h _ (I.tok _)
 ·subst ey
  cases(show u=Value.ref b from ry)
  obtain⟨z,hd,xs,rel,dd⟩:=DK I.hok e
  refine wpAny_in_heap (tupleKind_room_in1 hu) (VP I.hok eb) hd dd ?_
  have q:=(rel.val k).isSome_eq
  rw[Option.isSome_map] at q
  rw[←q, ←l]
  exact h _ (I.tok _)
theorem EC {Q:Value->Shared->Prop}(hu:A.units+1<cLine)(I:Inv X pins σ H s)(g:Dv H a y o)(ry:X8 y u)(h:∀s',Inv X pins σ H s'->Q (.bool (!o.isSome)) s'):
  wpAny (model X.prog X.w) A (compareOp .NotIn u (.ref a)) Q E s:=by
 rcases g with⟨kvs,k,e,ey,l⟩ | ⟨kvs,k,b,e,ey,eb,l⟩
 ·subst ey
  obtain⟨z,hd,vs,rel,dd⟩:=G9 I.hok e
  refine wpAny_notIn_of (GK ry) hd dd.mapOf ?_
  rw[←(rel.val k).isSome_eq, ←l]
  exact h _ (I.tok _)
 ·subst ey
  cases(show u=Value.ref b from ry)
  obtain⟨z,hd,xs,rel,dd⟩:=DK I.hok e
  refine wpAny_notIn_heap (tupleKind_room_in1 hu) (VP I.hok eb) hd dd ?_
  have q:=(rel.val k).isSome_eq
  rw[Option.isSome_map] at q
  rw[←q, ←l]
  exact h _ (I.tok _)
theorem Fp {h':Heap}{t':Nat}{ob:HO}(I:Inv X pins σ H s)(mu:Mut (H a))(hs:Heap.SameBut a s.heap h')(he:∃q,h'.get? a=some q)(new:YB X.prog X.w (upd H a ob) h' a ob):
  Inv X pins σ (upd H a ob) {s with heap:=h',toks:=t'}:=
 I.write (x:=a) (e:=a) mu (.inl rfl) (λb q hb z=>(hs.2 b hb).trans z) he new
theorem ID {P:Program}{w:World}{H':Hp}{h':Heap}{kvs:List (Key×V)}{vs:List (Key×Value)}(z:kvs.length<=sizeLine)(hd:(a==sysModules)=false)(rel:KV kvs vs)(dd:h'.DictOf (Yp P w) a vs):
  YB P w H' h' a (.dK kvs):=⟨z,hd,vs,rel,dd⟩
theorem FR {H':Hp}{Q:Unit->Shared->Prop}(hu:A.units+1<cLine)(I:Inv X pins σ H s)(g:He H a y v H')(ry:X8 y u)(rv:X8 v r)(h:∀s',Inv X pins σ H' s'->Q () s'):
  wpAny (model X.prog X.w) A (setItem (.ref a) u r) Q E s:=by
 rcases g with⟨kvs,k,e,ey,l,eH⟩ | ⟨kvs,k,b,e,ey,eb,l,eH⟩
 ·subst ey eH
  obtain⟨z,hd,vs,rel,dd⟩:=I9 I.hok e
  have hz:vs.length<=sizeLine:=by rw[←rel.length];exact z
  have hl:(Vh kvs k v).length<=sizeLine:=by have:=Vb kvs k v;(first|lia|omega)
  refine wpAny_setItem_pairs (hsz:=hz) (GK ry) dd λh' dd' hs=>h _ ?_
  have he:∃q,h'.get? a=some q:=let ⟨q,_,_,hq,_⟩:=dd';⟨q,hq⟩
  exact Fp I (by rw[e];exact True.intro) hs he (ID hl hd (rel.put k rv) dd')
 ·subst ey eH
  cases(show u=Value.ref b from ry)
  obtain⟨z,hd,xs,rel,dd⟩:=Lf I.hok e
  have hz:xs.length<=sizeLine:=by rw[←Paired.length rel];exact z
  have hl:(Vh kvs k v).length<=sizeLine:=by have:=Vb kvs k v;(first|lia|omega)
  refine wpAny_setItem_heap (hsz:=hz) (tupleKind_room_in1 hu) (VP I.hok eb) dd λh' dd' hs=>h _ ?_
  obtain⟨q,es,ep,hq,h2,h3,h4,_,h5⟩:=dd'
  refine Fp I (by rw[e];exact True.intro) hs ⟨q,hq⟩ ⟨hl,hd,_,(rel.put k eb rv).keeps λc ys ec=>?_,q,es,ep,hq,h2,h3,h4,h5⟩
  rw[Xv (Lw ec e (λz=>nomatch z))]
  exact ec
end
section
variable {X:Cx}{pins:List (Addr×Obj)}{σ:St}{H:Hp}{s:Shared}{a:Addr}{kvs:List (Key×V)}{k:Key}{u:Value}{A:Around}{E:Value->Shared->Prop}
end
noncomputable def LL (i:Expr):Prop:=∀ ov iv,subscripted i false ov iv=operate [ov,iv] (getItem ov iv)
theorem BW {prog:Program}{w:World}{A:Around}{E:Value->Shared->Prop}{s:Shared}{env:Env}{value slice:Expr}{pos:Pos}{T id:String}{Q:Value->Shared->Prop}
  (hl:typeLookup (.type T) "__getitem__" =pure (some (.builtin id)))(hs:LL slice)
  (h:wpAny (model prog w) A (eval value env) (λo s₁=>wpAny (model prog w) A (eval slice env) (λi s₂=>s₂.TypeIs o T/\wpAny (model prog w) A (getItem o i) Q E s₂) E s₁) E s):
  wpAny (model prog w) A (eval (.Subscript value slice pos) env) Q E s:=by
 refine Subscript_ (wpAny_mono h (λo s₁ h₁=>wpAny_mono h₁ (λi s₂ h₂=>?_) λ_ _ x=>x) λ_ _ x=>x)
 obtain⟨hT,h₂⟩:=h₂
 unfold subscriptTail
 refine wpAny_bind ?_
 rw[getitemInPython_of_ne hT.not_modules]
 refine wpAny_bind (wpAny_specialOf hT hl ?_)
 have fin:wpAny (model prog w) A (subscripted slice false o i) (λr s₃=>wpAny (model prog w) A (letTemporaryGo value o r >>= λ_=>pure r) Q E s₃) E s₂:=by
  rw[hs o i]
  exact wpAny_operating (wpAny_mono h₂ (λr s₃ h₃=>wpAny_bind (wpAny_letTemporaryGo (wpAny_pure h₃))) λ_ _ x=>x)
 first
  |exact wpAny_pure (wpAny_bind fin)
  |exact wpAny_bind (wpAny_pure (wpAny_bind fin))
  |exact wpAny_bind fin
theorem KR {X:Cx}{pins:List (Addr×Obj)}{σ:St}{H:Hp}{s:Shared}{a:Addr}{y:V}{o:Option V}(I:Inv X pins σ H s)(g:Dv H a y o):s.TypeIs (.ref a) "dict":=by
 rcases g with⟨kvs,k,e,_,_⟩ | ⟨kvs,k,b,e,_,_,_⟩
 ·obtain⟨_,_,vs,_,dd⟩:=G9 I.hok e
  exact dd.typeIs
 ·obtain⟨_,_,xs,_,dd⟩:=DK I.hok e
  exact dd.typeIs
noncomputable def HU (td ty:TE):TE:=λσ H Q=>td σ H λx H1=>ty σ H1 λy H2=>∃ a v,x= .ref a/\Dv H2 a y (some v)/\Q v H2
noncomputable def LK (ty td:TE):TE:=λσ H Q=>ty σ H λy H1=>td σ H1 λx H2=>∃ a o,x= .ref a/\Dv H2 a y o/\Q (.bl o.isSome) H2
noncomputable def FI (ty td:TE):TE:=λσ H Q=>ty σ H λy H1=>td σ H1 λx H2=>∃ a o,x= .ref a/\Dv H2 a y o/\Q (.bl (!o.isSome)) H2
noncomputable def HF (td ty tv:TE):TS:=λD σ H=>tv σ H λv H1=>td σ H1 λx H2=>ty σ H2 λy H3=>∃ a H4,x= .ref a/\He H3 a y v H4/\D.nx σ H4
section
variable {X:Cx}{o i e value:Expr}{pos pos' tpos:Pos}{td ty tv:TE}
theorem KW (hu:X.A.units+1<cLine)(ho:PE X o td)(hi:PE X i ty)(hs:LL i):PE X (.Subscript o i pos) (HU td ty):=by
 intro pins s σ H Q I h
 refine BW PySem.F.slot_dict_getitem.lookup hs (thn (ho pins s σ H _ I h) λu s1 ⟨x,H1,I1,rx,q1⟩=>thn (hi pins s1 σ H1 _ I1 q1) λiv s2 r9=>?_)
 obtain⟨y,H2,I2,ry,a,v,ex,g,q2⟩:=r9
 subst ex
 obtain rfl:u=Value.ref a:=rx
 exact⟨KR I2 g,Fz hu I2 g ry λw' s3 I3 rw'=>⟨v,H2,I3,rw',q2⟩⟩
theorem IE (hu:X.A.units+1<cLine)(hi:PE X i ty)(ho:PE X o td):PC X .In i o (LK ty td):=by
 intro pins s σ H Q I h
 refine thn (hi pins s σ H _ I h) λiv s1 ⟨y,H1,I1,ry,q1⟩=>thn (ho pins s1 σ H1 _ I1 q1) λu s2 r9=>?_
 obtain⟨x,H2,I2,rx,a,ov,ex,g,q2⟩:=r9
 subst ex
 obtain rfl:u=Value.ref a:=rx
 exact LY hu I2 g ry λs3 I3=>⟨.bl ov.isSome,H2,I3,rfl,q2⟩
theorem JQ (hu:X.A.units+1<cLine)(hi:PE X i ty)(ho:PE X o td):PC X .NotIn i o (FI ty td):=by
 intro pins s σ H Q I h
 refine thn (hi pins s σ H _ I h) λiv s1 ⟨y,H1,I1,ry,q1⟩=>thn (ho pins s1 σ H1 _ I1 q1) λu s2 r9=>?_
 obtain⟨x,H2,I2,rx,a,ov,ex,g,q2⟩:=r9
 subst ex
 obtain rfl:u=Value.ref a:=rx
 exact EC hu I2 g ry λs3 I3=>⟨.bl (!ov.isSome),H2,I3,rfl,q2⟩
theorem KG (hu:X.A.units+1<cLine)(ho:PE X o td)(hi:PE X i ty)(hv:PE X value tv)(hs:swapsWith value (some (.Subscript o i pos')) pos.line X.env=pure false):
  PS X (.Assign [.Subscript o i pos'] value pos) (HF td ty tv):=by
 intro pins s σ H D I h
 refine wpAny_Assign_Subscript (thn (hv pins s σ H _ I h) λr s1 ⟨v,H1,I1,rv,q1⟩=>thn (ho pins s1 σ H1 _ I1 q1) λu s2 ⟨x,H2,I2,rx,q2⟩=>thn (hi pins s2 σ H2 _ I2 q2) λiv s3 r9=>?_) hs
 obtain⟨y,H3,I3,ry,a,H4,ex,g,q3⟩:=r9
 subst ex
 obtain rfl:u=Value.ref a:=rx
 exact FR hu I3 g ry rv λs4 I4=>⟨σ,H4,I4,q3⟩
end
theorem Cp {P:Program}{w:World}{H:Hp}(h:Heap)(hb:sysModules<h.objs.size):YB P w H (h.push {cls:=.type "dict",data:=.dict #[]}) h.objs.size (.dK []):=
 ⟨Nat.zero_le _,beq_eq_false_iff_ne.mpr (Ne.symm (Nat.ne_of_lt hb)),[], .nil,Heap.DictOf.new h⟩
noncomputable def Bt:TE:=λ_ H Q=>∀ p,H p=none->Q (.ref p) (upd H p (.dK []))
section
variable {X:Cx}{pos:Pos}
theorem V7:PE X (.Dict [] [] pos) Bt:=λpins s σ H Q I h=>
 wpAny_Dict_empty ⟨.ref s.heap.objs.size,_,I.laid (a:=s.heap.objs.size) (o:=.dK []) (t':=s.toks) (λ_ _ q=>Heap.get?_push_of_some _ q) (Nat.le_refl _) (Cp s.heap I.big),rfl,h _ (I.hok.fresh (Nat.le_refl _))⟩
end
section
variable {X:Cx}{pins:List (Addr×Obj)}{σ:St}{H:Hp}{s:Shared}{a:Addr}{y d:V}{u r:Value}{o:Option V}{A:Around}{E:Value->Shared->Prop}
end
section
variable {X:Cx}{o e f:Expr}{apos cpos:Pos}{td ty tx:TE}
end
section
variable {X:Cx}{pins:List (Addr×Obj)}{σ:St}{H:Hp}{s:Shared}{a:Addr}{kvs:List (Key×V)}{A:Around}{E:Value->Shared->Prop}
end
section
variable {X:Cx}{pins:List (Addr×Obj)}{σ:St}{H:Hp}{s:Shared}{a:Addr}{y:V}{u:Value}{A:Around}{E:Value->Shared->Prop}
end
section
variable {X:Cx}
end
section
variable {κ:Type}[DecidableEq κ]
end
theorem Dg {env:Env}:∀(names:List (Str×NameKind)),(∀x∈names,x.2=NameKind.free->∃c,env.cells.lookup x.1=some c)->
  ∀cs:List (Str×Addr),(∀x c,cs.lookup x=some c->env.cells.lookup x=some c)->
  ∃cl:List (Str×Addr),(forIn names cs (λ(x:Str×NameKind) (r:List (Str×Addr))=>(if(x.2==NameKind.free)=true then do let a ←cellOf env x.1;pure (ForInStep.yield ((x.1,a)::r)) else pure (ForInStep.yield r):Sem (ForInStep (List (Str×Addr))))))=(pure cl:Sem (List (Str×Addr)))/\
   (∀x c,cl.lookup x=some c->env.cells.lookup x=some c)/\(∀x,((x,NameKind.free)∈names∨∃c,cs.lookup x=some c)->∃c,cl.lookup x=some c)
 | [],_,cs,hs=>⟨cs,by rw[List.forIn_nil],hs,λx h=>h.elim (λz=>nomatch z) id⟩
 | (n,k)::r,hf,cs,hs=>by
  have hr:∀x∈r,x.2=NameKind.free->∃c,env.cells.lookup x.1=some c:=λx hx=>hf x (List.mem_cons_of_mem _ hx)
  by_cases hk:k=NameKind.free
  ·subst hk
   obtain⟨a,ha⟩:=hf (n,NameKind.free) List.mem_cons_self rfl
   have hs':∀x c,((n,a)::cs).lookup x=some c->env.cells.lookup x=some c:=λx c h=>by
    rw[List.lookup_cons] at h
    by_cases hx:x=n
    ·subst hx
     simp only[beq_self_eq_true] at h
     rw[←h];exact ha
    ·have:(x==n)=false:=beq_eq_false_iff_ne.mpr hx
     rw[this] at h
     exact hs x c h
   obtain⟨cl,e,h1,h2⟩:=Dg r hr ((n,a)::cs) hs'
   refine⟨cl,?_,h1,λx h=>h2 x ?_⟩
   ·rw[List.forIn_cons]
    have e1:cellOf env n=pure a:=by unfold cellOf;rw[show env.cells.lookup n=some a from ha]
    simp only[beq_self_eq_true,if_true,e1]
    exact e
   ·rcases h with h | ⟨c,h⟩
    ·rcases List.mem_cons.mp h with h |h
     ·have:x=n:=congrArg Prod.fst h
      subst this
      exact .inr ⟨a,by rw[List.lookup_cons];simp⟩
     ·exact .inl h
    ·by_cases hx:x=n
     ·subst hx;exact .inr ⟨a,by rw[List.lookup_cons];simp⟩
     ·exact .inr ⟨c,by rw[List.lookup_cons,beq_eq_false_iff_ne.mpr hx];exact h⟩
  ·obtain⟨cl,e,h1,h2⟩:=Dg r hr cs hs
   refine⟨cl,?_,h1,λx h=>h2 x ?_⟩
   ·rw[List.forIn_cons]
    have hb:(k==NameKind.free)=false:=by simpa using hk
    simp only[hb,Bool.false_eq_true,if_false]
    exact e
   ·rcases h with h |h
    ·rcases List.mem_cons.mp h with h |h
     ·exact absurd (congrArg Prod.snd h).symm hk
     ·exact .inl h
    ·exact .inr h
theorem DN {scope:Scope}{env:Env}(hf:∀x∈scope.names,x.2=NameKind.free->∃c,env.cells.lookup x.1=some c):
  ∃cl:List (Str×Addr),closureFor scope env=pure cl/\(∀x c,cl.lookup x=some c->env.cells.lookup x=some c)/\(∀x,(x,NameKind.free)∈scope.names->∃c,cl.lookup x=some c):=by
 obtain⟨cl,e,h1,h2⟩:=Dg scope.names hf [] (λx c h=>by simp at h)
 refine⟨cl,?_,h1,λx h=>h2 x (.inl h)⟩
 unfold closureFor
 show((forIn scope.names [] (λ(x:Str×NameKind) (r:List (Str×Addr))=>(if(x.2==NameKind.free)=true then do let a ←cellOf env x.1;pure (ForInStep.yield ((x.1,a)::r)) else pure (ForInStep.yield r):Sem (ForInStep (List (Str×Addr)))))) >>= λs=>pure s)=pure cl
 rw[e]
 rfl
theorem QG {env:Env}:∀{names:List (Str×NameKind)}{x:Str}{k:NameKind},(∀y∈names,y.2≠NameKind.cell)->
  (names.map λ(n,k)=>if(k==NameKind.free&&env.scope.kind== .function&&env.kindOf n==some .cell) then(n,NameKind.cell) else(n,k)).lookup x=some k->(k= .cell∨k= .free)->(x,NameKind.free)∈names
 | [],_,_,_,h,_=>by simp at h
 | (n,kk)::r,x,k,hc,h,hk=>by
  have ih:=@QG env r x k (λy hy=>hc y (List.mem_cons_of_mem _ hy))
  have hh:=hc (n,kk) List.mem_cons_self
  simp only[List.map_cons] at h
  by_cases hcond:(kk==NameKind.free&&env.scope.kind== .function&&env.kindOf n==some .cell)=true
  ·rw[if_pos hcond,List.lookup_cons] at h
   have hfree:kk=NameKind.free:=by
    rw[Bool.and_eq_true,Bool.and_eq_true] at hcond
    simpa using hcond.1.1
   cases hx:x==n with
   |true=>
    have:x=n:=by simpa using hx
    subst this;subst hfree
    exact List.mem_cons_self
   |false=>rw[hx] at h;exact List.mem_cons_of_mem _ (ih h hk)
  ·rw[if_neg hcond,List.lookup_cons] at h
   cases hx:x==n with
   |true=>
    rw[hx] at h
    have hkk:kk=k:=Option.some.inj h
    have:x=n:=by simpa using hx
    subst this;subst hkk
    rcases hk with z |z
    ·exact absurd z hh
    ·subst z;exact List.mem_cons_self
   |false=>rw[hx] at h;exact List.mem_cons_of_mem _ (ih h hk)
theorem Js {env:Env}:∀{names:List (Str×NameKind)}{x:Str},names.lookup x=some .free->
  let l:=(names.map λ(n,k)=>if(k==NameKind.free&&env.scope.kind== .function&&env.kindOf n==some .cell) then(n,NameKind.cell) else(n,k))
  l.lookup x=some .cell∨l.lookup x=some .free
 | [],_,h=>by simp at h
 | (n,kk)::r,x,h=>by
  have ih:=@Js env r x
  simp only[List.map_cons]
  rw[List.lookup_cons] at h
  by_cases hcond:(kk==NameKind.free&&env.scope.kind== .function&&env.kindOf n==some .cell)=true
  ·rw[if_pos hcond,List.lookup_cons]
   cases hx:x==n with
   |true=>exact .inl rfl
   |false=>rw[hx] at h;exact ih h
  ·rw[if_neg hcond,List.lookup_cons]
   cases hx:x==n with
   |true=>rw[hx] at h;exact .inr h
   |false=>rw[hx] at h;exact ih h
noncomputable abbrev Cx.comp (X:Cx)(N:List Str)(scope:Scope)(cl:List (Str×Addr))(C:Addr)(s:Shared)(H:Hp)(ex:List Addr)(E:Value->Shared->Prop):Cx:=
 {X with N:=N,s₀:=s,H₀:=H,env:=compEnvC scope cl C X.env,outer:=X.stack,ex:=ex,fn:=λ_=>false,pn:=[],xe:=E}
noncomputable def PTs (X:Cx)(ifs:List Expr)(t:TT):Prop:=
 ∀(pins:List (Addr×Obj)) (s:Shared) (σ:St) (H:Hp) (Q:Bool->Hp->Prop),Inv X pins σ H s->t σ H Q->
  wpAny (model X.prog X.w) X.A (forIn ifs true λc r=>if r=true then do let ok ←isTrue c X.env (eval c X.env);pure (ForInStep.yield ok) else pure (ForInStep.yield r)) (TP X pins σ Q) X.xe s
noncomputable def Ur:TT:=λ_ H Q=>Q true H
theorem HZ {σ:St}{H:Hp}{A B:Hp->Prop}(h:A H):Ur σ H λc H5=>if c=true then A H5 else B H5:=by
 show if true=true then A H else B H
 rw[if_pos rfl]
 exact h
theorem QF {X:Cx}:PTs X [] Ur:=λ_ _ _ H _ I h=>wpAny_tests_nil ⟨H,I,h⟩
theorem Hc {X:Cx}{c:Expr}{t:TT}(h:PT X c t):PTs X [c] t:=λpins s σ H Q I hw=>wpAny_tests_one (h pins s σ H Q I hw)
noncomputable def Ut (n:Nat)(g:TG):Prop:=∀ x σ H Q,g x σ H Q->g x σ H λσ2 H2=>Q σ2 H2/\σ2.length=σ.length/\∀i,n<=i->σ2[i]?=σ[i]?
theorem QH {n i:Nat}(h:i<n):Ut n (Z2 i):=λx σ H Q q=>⟨q,by simp,λj hj=>by rw[List.getElem?_set_ne (by lia)]⟩
theorem B9 {K:PySem.W.Frag}{n i j:Nat}(hi:i<n)(hj:j<n):Ut n (Hg K 2 (V8 (Z2 i) (V8 (Z2 j) Hv))):=λx σ H Q q=>by
 obtain⟨a,xs,e1,hq,hl,v,r,e2,w,r2,e3,e4,q⟩:=q
 exact⟨a,xs,e1,hq,hl,v,r,e2,w,r2,e3,e4,q,by simp,λk hk=>by rw[List.getElem?_set_ne (by lia),List.getElem?_set_ne (by lia)]⟩
noncomputable def QN (n:Nat)(caps:List (Nat×Str))(σ:St):St:=List.replicate n none++caps.map λp=>(σ[p.1]?).join
noncomputable def Ee (g:TG)(tt:TT)(te:TE)(σ:St)(Q:VK)(J:It)(W:Nat->Nat->List V->Hp->Prop):Prop:=
 ∀i m ys H2,W i m ys H2->ys.length<=sizeLine/\
  ((J.stop i H2/\∀p,H2 p=none->Q (.ref p) (upd H2 p (.lst ys)))∨
  (J.go i H2/\∃N:List V->Hp->Prop,(∀ys' H',N ys' H'->∃m',m'<m/\W (i+1) m' ys' H')/\∀x H3,J.yld i H2 x H3->g x σ H3 λσ4 H4=>tt σ4 H4 λc H5=>
   if c=true then te σ4 H5 λv H6=>N (ys++[v]) H6 else N ys H5))
noncomputable def BL (n:Nat)(caps:List (Nat×Str))(g:TG)(tt:TT)(te:TE)(σ:St)(Q:VK)(J:It)(H1:Hp):Prop:=
 ∃W:Nat->Nat->List V->Hp->Prop,(∃m,W 0 m [] H1)/\Ee g tt te (QN n caps σ) Q J W
noncomputable def FD (n:Nat)(caps:List (Nat×Str))(wi:TI)(g:TG)(tt:TT)(te:TE):TE:=λσ H Q=>wi σ H λJ H1=>BL n caps g tt te σ Q J H1
noncomputable def U2 (sc scope:Scope)(N0 tns:List Str)(caps:List (Nat×Str)):Bool:=
 scope.kind== .function&&scope.names.all (λy=>!(y.2== .cell))&&scope.names.all (λy=>!(y.2== .local) || scope.names.lookup y.1==some .local)&&
 scope.names.all (λy=>!(y.2== .free) || sc.names.lookup y.1==some .cell)&&caps.all (λp=>N0[p.1]?==some p.2&&sc.names.lookup p.2==some .cell&&scope.names.lookup p.2==some .free)
theorem K4 {α:Type}{p:α}{P:Prop}(h:p∈([]:List α)):P:=nomatch h
noncomputable def Hr (M:Model)(A:Around)(elt tg:Expr)(ifs:List Expr)(acc:Value)(env:Env)(E:Value->Shared->Prop)(K:Shared->Prop)(v:Value)(s:Shared):Prop:=
 wpAny M A (assign tg env v) (λ_ s₂=>wpAny M A (forIn ifs true λc r=>if r=true then do let ok ←isTrue c env (eval c env);pure (ForInStep.yield ok) else pure (ForInStep.yield r)) (λok s₃=>
  if ok=true then wpAny M A (eval elt env) (λx s₄=>wpAny M A (call (.builtin "list.append") [acc,x]) (λ_ s₅=>K s₅) E s₄) E s₃ else K s₃) E s₂) E s
noncomputable def Lb (M:Model)(A:Around)(elt tg:Expr)(ifs:List Expr)(it acc:Value)(env:Env)(E:Value->Shared->Prop)(Rn K:Shared->Prop)(s:Shared):Prop:=
 wpAny M A (pyNext it) (λr s₁=>r=none/\Rn s₁∨∃v,r=some v/\wpAny M A (letOwnedTupleGo tg it v) (λ_ s₁=>Hr M A elt tg ifs acc env E K v s₁) E s₁) E s
section
variable {prog:Program}{w:World}{A:Around}{R:Result->Shared->Prop}{s:Shared}
theorem UV {elt target iter:Expr}{ifs:List Expr}{scope:Scope}{pos:Pos}{it acc:Value}{env:Env}{E:Value->Shared->Prop}(I:Nat->Shared->Prop)(hE:(notedBy (model prog w) A env λe s'=>R (.error e) s')=E)
  (turn:∀n s,I n s->Lb (model prog w) A elt target ifs it acc env E (λs=>R (.ok .next) s) (λs=>∃ m,m<n/\I m s) s)(n:Nat)(h:I n s):
  codeAny (model prog w) A (.compLoop (.ListComp elt [⟨target,iter,ifs,0⟩] scope pos) 0 it acc env) R s:=by
 subst hE
 refine codeAny_loop rfl I (λn s hI=>?_) n h
 show wpAny _ A ((compTurn (.ListComp elt [⟨target,iter,ifs,0⟩] scope pos) 0 it acc env).onRaise (λx=>do noteFrame x env;theTreesLotGoes x)) _ _ s
 refine wpAny_noted ?_
 rw[compTurn_list]
 refine wpAny_bind (wpAny_standAt (wpAny_bind (thn (turn n s hI) λr s₁ h₁=>?_)))
 rcases h₁ with⟨rfl,h₁⟩ | ⟨v,rfl,h₁⟩
 ·exact wpAny_pure h₁
 ·refine wpAny_bind (thn h₁ λ_ s₁' h₁'=>wpAny_bind (thn h₁' λ_ s₂ h₂=>wpAny_bind (thn h₂ λok s₃ h₃=>?_)))
  cases ok with
  |false=>exact wpAny_pure ⟨rfl,h₃⟩
  |true=>exact wpAny_bind (wpAny_bind (thn h₃ λx s₄ h₄=>wpAny_bind (thn h₄ λ_ s₅ h₅=>wpAny_pure (wpAny_pure ⟨rfl,h₅⟩))))
end
noncomputable def lob (its:List Value)(k:Nat):Obj:={cls:=.type "list",data:=.seq (List.toArray its) k}
structure CIn (Y:Cx)(tn:Nat->Heap->Prop)(fp:List Addr)(D:Addr)(σ:St)(i:Nat)(H:Hp)(o:Obj)(s:Shared):Prop where
 I:Inv Y [] σ H s
 t:tn i s.heap
 f:∀b∈fp,H b=none
 l:s.heap.get? D=some o
 n:H D=none
inductive CI (Y:Cx)(tn:Nat->Heap->Prop)(fp:List Addr)(D:Addr)(σ:St)(W:Nat->Nat->List V->Hp->Prop)(m:Nat)(s:Shared):Prop
 |mk (i:Nat) (H:Hp) (ys:List V) (its:List Value) (k:Nat) (c:CIn Y tn fp D σ i H (lob its k) s) (r:Yg ys its) (w:W i m ys H)
structure CAt (Y:Cx)(fp:List Addr)(D:Addr):Prop where
 calm:Y.calm=true
 pn:Y.pn=[]
 ne:D≠Y.env.locals
 fs:D∉Y.fs
 sz:Y.s₀.heap.objs.size<=D
 cl:∀x c,Y.env.cells.lookup x=some c->c≠D
 fpn:∀b∈fp,b≠D
 ok:∀b∈fp,∀H:Hp,H b=none->K0 Y [] H b
section
variable {Y:Cx}{tn:Nat->Heap->Prop}{fp:List Addr}{D it:Addr}{σ:St}{tg elt iter:Expr}{ifs:List Expr}{J:It}{g:TG}{tt:TT}{te:TE}{n i:Nat}{H:Hp}{s:Shared}{o:Obj}{Kn:Shared->Prop}
theorem CAt.pins (c:CAt Y fp D)(hn:∀b∈fp,H b=none):∀b∈fp,K0 Y [(D,o)] H b:=λb hb=>
 have z:=c.ok b hb H (hn b hb)
 ⟨z.1,z.2.1,z.2.2.1,z.2.2.2.1,z.2.2.2.2.1,λp hp e=>by
  rw[c.pn] at hp
  cases List.mem_singleton.mp hp
  exact c.fpn b hb e.symm⟩
theorem Gi (T:Turn Y.prog Y.w Y.K tg J fp it tn){h5:Heap}(t:tn i h5)(I:Inv Y ([(D,o)]++US fp h5) σ H s):CIn Y tn fp D σ i H o s:=
 have p:=I.pin (D,o) (List.mem_append_right _ (.head _))
 have q:∀b∈fp,∀o',h5.get? b=some o'->s.heap.get? b=some o'/\H b=none:=λb hb o' e=>have z:=I.pin (b,o') (List.mem_append_right _ (.tail _ (Jb hb e)));⟨z.1,z.2.1⟩
 ⟨I.pins_of (pins':=[]) λ_ h=>K4 h,T.keep _ _ _ t λb hb o' e=>(q b hb o' e).1,λb hb=>(T.obj _ _ t b hb).elim λo' e=>(q b hb o' e.1).2,p.1,p.2.1⟩
theorem L6 (T:Turn Y.prog Y.w Y.K tg J fp it tn)(a:CAt Y fp D){its:List Value}{k:Nat}{v:Value}{E:Value->Shared->Prop}(c:CIn Y tn fp D σ i H (lob its k) s)(hz:its.length<=sizeLine)
  (hQ:∀k' s',CIn Y tn fp D σ i H (lob (its++[v]) k') s'->Kn s'):wpAny (model Y.prog Y.w) Y.A (call (.builtin "list.append") [.ref D,v]) (λ_ s=>Kn s) E s:=by
 refine call_meets F.slot_list_append ⟨_,c.l,rfl⟩ F.entry_list_append (F.args_list_append_2 _ _) (PySem.list_append D (List.toArray its) k v hz) ⟨c.l,?_⟩
 have q:∃k',PySem.IsL (s.heap.update D (Obj.mapSeq (·.push v))) D ((List.toArray its).push v) k':=⟨_,PySem.IsL.update c.l (·.push v)⟩
 rw[List.push_toArray] at q
 obtain⟨k',q⟩:=q
 exact hQ k' _ ⟨c.I.turned (t':=s.toks) (h':=s.heap.update D (Obj.mapSeq (·.push v))) (it:=D) (λb o hb' e=>(Heap.get?_update_other s.heap _ (Ne.symm hb')).trans e) c.n a.ne (.inr a.sz) a.cl (λp hp=>by rw[a.pn] at hp;exact K4 hp),
  T.keep _ _ _ c.t λb hb o e=>(Heap.get?_update_other s.heap _ (Ne.symm (a.fpn b hb))).trans e,c.f,q,c.n⟩
theorem Ce {acc:Value}{pins:List (Addr×Obj)}{N:List V->Hp->Prop}{ys:List V}{x:V}{u:Value}(hg:PG Y tg g)(ht:PTs Y ifs tt)(he:PE Y elt te)(hG:Ut n g)(h0:∀(j:Nat) v,σ[j]?=some (some v)->n<=j)
  (I:Inv Y pins σ H s)(r:X8 x u)(st:g x σ H λσ4 H4=>tt σ4 H4 λc H5=>if c=true then te σ4 H5 λv H6=>N (ys++[v]) H6 else N ys H5)
  (hF:∀H7 s7,Inv Y pins σ H7 s7->N ys H7->Kn s7)(hT:∀H8 s8 y v,Inv Y pins σ H8 s8->X8 y v->N (ys++[y]) H8->wpAny (model Y.prog Y.w) Y.A (call (.builtin "list.append") [acc,v]) (λ_ s=>Kn s) Y.xe s8):
  Hr (model Y.prog Y.w) Y.A elt tg ifs acc Y.env Y.xe Kn u s:=by
 refine thn (hg _ s _ H x u _ I r (hG _ _ _ _ st)) λ_ s6 r9=>?_
 obtain⟨σ6,H6,I6,q6,l6,k6⟩:=r9
 have wk:∀(j:Nat) v,σ[j]?=some (some v)->σ6[j]?=some (some v):=λj v e=>(k6 j (h0 j v e)).trans e
 refine thn (ht _ s6 σ6 H6 _ I6 q6) λc s7 r9=>?_
 obtain⟨H7,I7,q7⟩:=r9
 cases c with
 |false=>exact hF _ _ (I7.weak l6.symm wk) q7
 |true=>exact thn (he _ s7 σ6 H7 _ I7 q7) λv8 s8 r9=>by obtain⟨y8,H8,I8,r8,n8⟩:=r9;exact hT _ _ _ _ (I8.weak l6.symm wk) r8 n8
theorem GI {scope:Scope}{pos:Pos}{Q:V->Hp->Prop}{R:Result->Shared->Prop}(hE:(notedBy (model Y.prog Y.w) Y.A Y.env λe s'=>R (.error e) s')=Y.xe)
  (T:Turn Y.prog Y.w Y.K tg J fp it tn)(hG:Ut n g)(hg:PG Y tg g)(ht:PTs Y ifs tt)(he:PE Y elt te)(a:CAt Y fp D)(h0:∀(j:Nat) v,σ[j]?=some (some v)->n<=j)
  {W:Nat->Nat->List V->Hp->Prop}(turn:Ee g tt te σ Q J W)
  (hEnd:∀ys its k H3 s4,Inv Y [(D,lob its k)] σ H3 s4->Yg ys its->ys.length<=sizeLine->Q (.ref D) (upd H3 D (.lst ys))->R (.ok .next) s4){m0:Nat}(hi:CI Y tn fp D σ W m0 s):
  codeAny (model Y.prog Y.w) Y.A (.compLoop (.ListComp elt [⟨tg,iter,ifs,0⟩] scope pos) 0 (.ref it) (.ref D) Y.env) R s:=by
 refine UV (CI Y tn fp D σ W) hE (λm s3 c=>?_) m0 hi
 cases c with
 |mk i H3 ys its k c rv w3=>
 have I3:Inv Y [(D,lob its k)] σ H3 s3:=c.I.pins_of λp hp=>List.mem_singleton.mp hp▸⟨c.l,c.n,a.ne,a.fs,λ_ z=>by cases z⟩
 have t:=turn i m ys H3 w3
 refine t.2.elim (λq=>?_) λq=>?_
 ·exact thn (T.done Y rfl rfl rfl a.calm i _ s3 _ H3 Y.xe I3 (a.pins c.f) c.t q.1) λr s4 h=>.inl ⟨h.1,hEnd ys its k H3 s4 h.2 rv t.1 (q.2 D c.n)⟩
 ·refine q.2.elim λNN h=>?_
  refine thn (T.item Y rfl rfl rfl a.calm i _ s3 _ H3 Y.xe I3 (a.pins c.f) c.t q.1) λr s4 h4=>.inr (h4.elim λu h4=>⟨u,h4.1,thn h4.2 λ_ s5 h5=>h5.elim λx h5=>h5.elim λH5 h5=>?_⟩)
  exact Ce hg ht he hG h0 (h5.1.pinned (a.pins h5.2.2.2.2) (T.obj _ _ h5.2.2.2.1)) h5.2.1 (h.2 x H5 h5.2.2.1)
   (λH7 s7 I7 q7=>(h.1 _ _ q7).elim λm' z=>⟨m',z.1, .mk (i+1) H7 ys its k (Gi T h5.2.2.2.1 I7) rv z.2⟩)
   λH8 s8 y v I8 r8 q8=>(h.1 _ _ q8).elim λm' z=>L6 T a (Gi T h5.2.2.2.1 I8) (rv.length▸t.1) λk' s' c'=>⟨m',z.1, .mk (i+1) H8 (ys++[y]) (its++[v]) k' c' (rv.append (.cons r8 .nil)) z.2⟩
end
section
variable {X:Cx}{elt tg iter:Expr}{ifs:List Expr}{scope sc:Scope}{pos:Pos}{n:Nat}{tns:List Str}{caps:List (Nat×Str)}{wi:TI}{g:TG}{tt:TT}{te:TE}
structure CompEnd (X:Cx)(pins:List (Addr×Obj))(σ:St)(H3:Hp)(D C:Addr)(ys:List V)(s':Shared):Prop where
 inv:Inv X pins σ (upd H3 D (.lst ys)) s'
 fresh:H3 D=none
 fp:K0 X pins (upd H3 D (.lst ys)) C
 ns:∃m,s'.heap.Ns C m
theorem Bk {pins:List (Addr×Obj)}{σ σ':St}{H H3:Hp}{s s4:Shared}{D C:Addr}{fp:List Addr}{its:List Value}{k:Nat}{ys:List V}{Y:Cx}(I:Inv X pins σ H s)(hf:∀b∈fp,K0 X pins H b)(hD:s.heap.objs.size<=D)(hDlt:D<C)
  (I4:Inv Y [(D,lob its k)] σ' H3 s4)(hos:s4.os=s.os)(u:Un (frs X.stack) fp H H3 s.heap s4.heap)(hok:HOk X.prog X.w H3 s4.heap)(hC:Y.env.locals=C)(rv:Yg ys its)(hz:ys.length<=sizeLine):CompEnd X pins σ H3 D C ys s4:=by
 subst hC
 have p:=I4.pin (D,lob its k) (List.mem_append_right _ (.head _))
 have hDn:H3 D=none:=p.2.1
 have up:∀{b:Addr}{o:HO},H3 b=some o->upd H3 D (.lst ys) b=some o:=λe=>(Xv (XF e hDn)).trans e
 refine⟨I.call' (ch:=fp) hos ⟨u.keep,u.slot,λb o e nn hx=>(Xv (Nat.ne_of_lt (Nat.lt_of_lt_of_le (Heap.lt_size e) hD))).trans (u.free b o e nn hx),u.there,λb xs e=>up (u.tups b xs e),λb o xs e=>up (u.frzs b o xs e),λb ps e=>(u.tbls b ps e).elim λmore z=>⟨more,up z⟩⟩ (λa o e=>?_) I4.bare λb hb=>have z:=hf b hb;⟨z.2.2.2.1,z.2.1,z.2.2.2.2.1,z.2.2.2.2.2⟩,hDn,I.fpOk (Nat.le_trans hD (Nat.le_of_lt hDlt)) ((Xv (Nat.ne_of_gt hDlt)).trans I4.free),I4.loc.elim λm z=>⟨m,z.1⟩⟩
 by_cases ha:a=D
 ·subst ha
  rw[XL] at e;cases e
  exact⟨hz,its,k,rv,p.1⟩
 ·rw[Xv ha] at e
  exact(hok a o e).stay (λb u _ q=>q) (λb q=>up q) λb xs q=>up q
noncomputable def L5 (X:Cx)(elt tg iter:Expr)(ifs:List Expr)(scope:Scope)(pos:Pos)(it:Value)(cl:List (Str×Addr))(RR:Value->Addr->Result->Shared->Prop)(E:Value->Shared->Prop)(s:Shared):Prop:=
 wpAny (model X.prog X.w) X.A (newList []) (λacc s₃=>wpAny (model X.prog X.w) X.A (newFunctionEnv scope X.env.globals cl [] X.env.qual none .none (some X.env)) (λcenv s₄=>
   codeAny (model X.prog X.w) X.A (.compStart (.ListComp elt [⟨tg,iter,ifs,0⟩] scope pos) 0 it acc {cenv with scope:=relabel scope X.env}) (RR acc cenv.locals) s₄) E s₃) E s
theorem UF {σ:St}{i:Nat}{v:V}(e:(QN n caps σ)[i]?=some (some v)):n<=i/\∃p,caps[i-n]?=some p/\σ[p.1]?=some (some v):=by
 unfold QN at e
 by_cases h:i<n
 ·rw[List.getElem?_append_left (by simpa using h),List.getElem?_replicate,if_pos h] at e
  cases e
 ·have hi:=Nat.le_of_not_lt h
  rw[List.getElem?_append_right (by simpa using hi),List.length_replicate,List.getElem?_map] at e
  refine⟨hi,?_⟩
  cases hcp:caps[i-n]? with
  |none=>rw[hcp] at e;cases e
  |some p=>
   rw[hcp] at e
   exact⟨p,rfl,Option.join_eq_some_iff.mp (Option.some.inj e)⟩
structure COk (X:Cx)(scope:Scope)(caps:List (Nat×Str)):Prop where
 kind:scope.kind= .function
 cell:∀y∈scope.names,y.2≠NameKind.cell
 loc:∀y∈scope.names,y.2= .local->scope.names.lookup y.1=some .local
 free:∀y∈scope.names,y.2= .free->X.env.scope.names.lookup y.1=some .cell
 caps:∀p∈caps,(X.N[p.1]?=some p.2/\X.env.scope.names.lookup p.2=some .cell)/\scope.names.lookup p.2=some .free
theorem COk.of {N0:List Str}(hsc:X.env.scope=sc)(hN0:X.N=N0)(ok:U2 sc scope N0 tns caps=true):COk X scope caps:=by
 subst hsc
 subst hN0
 unfold U2 at ok
 simp only[Bool.and_eq_true,List.all_eq_true,beq_iff_eq,Bool.or_eq_true,Bool.not_eq_true',beq_eq_false_iff_ne] at ok
 exact⟨ok.1.1.1.1,ok.1.1.1.2,λy hy e=>(ok.1.1.2 y hy).resolve_left (absurd e),λy hy e=>(ok.1.2 y hy).resolve_left (absurd e),ok.2⟩
section
variable {pins:List (Addr×Obj)}{σ:St}{H:Hp}{s:Shared}{fp:List Addr}{cl:List (Str×Addr)}{C:Addr}{E:Value->Shared->Prop}{N:List Str}{h₁:Heap}
theorem EV (ok:COk X scope caps)(I:Inv X pins σ H s)(hf:∀b∈fp,K0 X pins H b)(hlt:∀b∈fp,b<s.heap.objs.size)
  (hsub:∀x c,cl.lookup x=some c->X.env.cells.lookup x=some c)(hall:∀x,(x,NameKind.free)∈scope.names->∃c,cl.lookup x=some c)(hC:s.heap.objs.size<C):(X.comp N scope cl C s H fp E).Ok:=
 ⟨I.ok.mod,ok.kind,I.ok.glob,I.ok.blt,Nat.le_of_lt hC,λx y c h1 h2=>I.ok.inj x y c (hsub x c h1) (hsub y c h2),λx hx=>hall x (hx.elim (λz=>QG ok.cell z (.inl rfl)) λz=>QG ok.cell z (.inr rfl)),(λx c hx=>by cases hx),I.ok.hd,I.ok.frames, .inl rfl,
  λb hb=>⟨Nat.ne_of_lt (Nat.lt_trans (hlt b hb) hC),λx c e=>(hf b hb).2.2.2.2.1 x c (hsub x c e)⟩,I.bs,Nat.le_trans I.ok.bsz I.sz,λb o e hb=>(hf b hb).2.2.2.1.elim (I.ok.noex b o e) λz=>absurd (Nat.lt_of_lt_of_le (Heap.lt_size e) (Nat.le_trans I.ok.bsz z)) (Nat.lt_irrefl _),
  λb hb hz=>(List.mem_cons.mp (I.stkSub b hz)).elim (hf b hb).2.1 (hf b hb).2.2.1,I.stack,I.stkFree⟩
theorem CH (okc:COk X scope caps)(hn:tns.length=n)(ok:(X.comp (tns++caps.map (·.2)) scope cl C s H fp E).Ok)(I:Inv X pins σ H s)
  (hsub:∀x c,cl.lookup x=some c->X.env.cells.lookup x=some c)(hall:∀x,(x,NameKind.free)∈scope.names->∃c,cl.lookup x=some c)(hC:s.heap.objs.size<C)(hns:h₁.Ns C λ_=>none)(old:∀b o,s.heap.get? b=some o->h₁.get? b=some o){tk:Nat}:
  Inv (X.comp (tns++caps.map (·.2)) scope cl C s H fp E) [] (QN n caps σ) H {s with heap:=h₁,toks:=tk}:=by
 refine⟨ok,rfl,I.bare,Un.kept old,⟨_,hns,λi x v e1 e2 _=>?_⟩,λx c e=>(I.cell x c (hsub x c e)).elim λv z=>z.elim λo z=>⟨v,o,old _ _ z.1,z.2⟩,I.hok.fresh (Nat.le_of_lt hC),λx c e=>I.freeC x c (hsub x c e),λp hp=>K4 (α:=Addr×Obj) hp,I.hok.kept old,by simp[QN,hn]⟩
 obtain⟨hi,p,hp,hσ⟩:=UF e2
 have e1':(tns++caps.map (·.2))[i]?=some x:=e1
 rw[List.getElem?_append_right (hn▸hi),hn,List.getElem?_map,hp] at e1'
 cases Option.some.inj e1'
 have p5:=okc.caps p (List.mem_of_getElem? hp)
 obtain⟨m,hm,hl⟩:=I.loc
 obtain⟨u,r,l⟩:=hl p.1 p.2 v p5.1.1 hσ (.inr (.inl p5.1.2))
 refine⟨u,r, .inr ?_⟩
 rcases l with⟨k,_⟩ | ⟨k,c,e,z⟩
 ·cases p5.1.2.symm.trans k
 ·obtain⟨c',e'⟩:=hall p.2 (PySem.mem_of_lookup p5.2)
  cases e.symm.trans (hsub _ _ e')
  exact⟨Js (env:=X.env) p5.2,c,e',z.elim λo z=>⟨o,old _ _ z.1,z.2⟩⟩
variable {J:It}{it:Addr}{tn:Nat->Heap->Prop}{Q:V->Hp->Prop}{RR:Value->Addr->Result->Shared->Prop}{W:Nat->Nat->List V->Hp->Prop}{m0:Nat}
theorem B3 (ok:COk X scope caps)(hc:X.calm=true)(hn:tns.length=n)(hG:Ut n g)
  (hb:∀cl C s H ex E,PG (X.comp (tns++caps.map (·.2)) scope cl C s H ex E) tg g/\PTs (X.comp (tns++caps.map (·.2)) scope cl C s H ex E) ifs tt/\PE (X.comp (tns++caps.map (·.2)) scope cl C s H ex E) elt te)
  (I:Inv X pins σ H s)(T:Turn X.prog X.w X.K tg J fp it tn)(t0:tn 0 s.heap)(hf:∀b∈fp,K0 X pins H b)
  (hsub:∀x c,cl.lookup x=some c->X.env.cells.lookup x=some c)(hall:∀x,(x,NameKind.free)∈scope.names->∃c,cl.lookup x=some c)
  (w0:W 0 m0 [] H)(turn:Ee g tt te (QN n caps σ) Q J W)
  (hRR:∀D C ys H3 s',CompEnd X pins σ H3 D C ys s'->Q (.ref D) (upd H3 D (.lst ys))->RR (.ref D) C (.ok .next) s')
  (hC:s.heap.objs.size<C)(hns:h₁.Ns C λ_=>none)(old:∀b o,s.heap.get? b=some o->h₁.get? b=some o)(hacc:h₁.get? s.heap.objs.size=some (lob [] 0)){tk:Nat}:
  codeAny (model X.prog X.w) X.A (.compStart (.ListComp elt [⟨tg,iter,ifs,0⟩] scope pos) 0 (.ref it) (.ref s.heap.objs.size) (compEnvC scope cl C X.env)) (RR (.ref s.heap.objs.size) C) {s with heap:=h₁,toks:=tk}:=by
 have hlt:∀b∈fp,b<s.heap.objs.size:=λb hb=>(T.obj _ _ t0 b hb).elim λo e=>Heap.lt_size e.1
 have okY:∀E,(X.comp (tns++caps.map (·.2)) scope cl C s H fp E).Ok:=λE=>EV ok I hf hlt hsub hall hC
 have t1:tn 0 h₁:=T.keep _ _ _ t0 λb _ o e=>old b o e
 have loop:∀tk,codeAny (model X.prog X.w) X.A (.compLoop (.ListComp elt [⟨tg,iter,ifs,0⟩] scope pos) 0 (.ref it) (.ref s.heap.objs.size) (compEnvC scope cl C X.env)) (RR (.ref s.heap.objs.size) C) {s with heap:=h₁,toks:=tk}:=λtk=>
  have z:=hb cl C s H fp (notedBy (model X.prog X.w) X.A (compEnvC scope cl C X.env) λe s'=>RR (.ref s.heap.objs.size) C (.error e) s')
  GI (Y:=X.comp (tns++caps.map (·.2)) scope cl C s H fp _) rfl T hG z.1 z.2.1 z.2.2
   ⟨hc,rfl,Nat.ne_of_lt hC,λhz=>(I.stack.mem hz).2.elim λo ho=>absurd (Heap.lt_size ho.1) (Nat.lt_irrefl _),Nat.le_refl _,λx c e=>(I.cell x c (hsub x c e)).elim λv z=>Nat.ne_of_lt z.lt,λb hb=>Nat.ne_of_lt (hlt b hb),
    λb hb H' h'=>⟨h',Nat.ne_of_lt (Nat.lt_trans (hlt b hb) hC),(okY λ_ _=>True).exfs b hb, .inl hb,λx c e=>(hf b hb).2.2.2.2.1 x c (hsub x c e),λp hp=>K4 (α:=Addr×Obj) hp⟩⟩
   (λj v e=>(UF e).1) turn (λys its k H3 s4 I4 rv hz q=>hRR _ C ys H3 s4 (Bk I hf (Nat.le_refl _) hC I4 I4.os I4.base I4.hok rfl rv hz) q)
   (.mk 0 H [] [] 0 ⟨CH ok hn (okY _) I hsub hall hC hns old,t1,λb hb=>(hf b hb).1,hacc,I.hok.fresh (Nat.le_refl _)⟩ .nil w0)
 exact codeAny_compStart_list (loop _) (T.self _ 0 _ _ _ t1 (loop _))
theorem VF (ok:COk X scope caps)(hc:X.calm=true)(hn:tns.length=n)(hG:Ut n g)
  (hb:∀cl C s H ex E,PG (X.comp (tns++caps.map (·.2)) scope cl C s H ex E) tg g/\PTs (X.comp (tns++caps.map (·.2)) scope cl C s H ex E) ifs tt/\PE (X.comp (tns++caps.map (·.2)) scope cl C s H ex E) elt te)
  {itv:Value}(h:PIE X pins σ tg (λJ H1=>BL n caps g tt te σ Q J H1) itv s)
  (hsub:∀x c,cl.lookup x=some c->X.env.cells.lookup x=some c)(hall:∀x,(x,NameKind.free)∈scope.names->∃c,cl.lookup x=some c)
  (hRR:∀D C ys H3 s',CompEnd X pins σ H3 D C ys s'->Q (.ref D) (upd H3 D (.lst ys))->RR (.ref D) C (.ok .next) s'):
  L5 X elt tg iter ifs scope pos itv cl RR E s:=by
 obtain⟨it,fp,tn,J,H',rfl,I,T,t0,hf,W,⟨m0,w0⟩,turn⟩:=h
 refine wpAny_newObj_type (wpAny_newFunctionEnv ok.cell (by intro y hy;simp at hy) (λh₁ hns₁ hsb₁=>?_) ok.kind)
 have hs:∀o,(s.heap.push o).objs.size=s.heap.objs.size+1:=λo=>Heap.size_push ..
 exact B3 ok hc hn hG hb I T t0 hf hsub hall w0 turn hRR (Nat.lt_of_lt_of_eq (Nat.lt_succ_self _) (hs _).symm) hns₁
  (λb o e=>hsb₁.extBut b o (Nat.ne_of_lt (Nat.lt_trans (Heap.lt_size e) (Nat.lt_of_lt_of_eq (Nat.lt_succ_self _) (hs _).symm))) (Heap.get?_push_of_some _ (Heap.get?_push_of_some _ e)))
  (hsb₁.extBut _ _ (Nat.ne_of_lt (Nat.lt_of_lt_of_eq (Nat.lt_succ_self _) (hs _).symm)) (Heap.get?_push_of_some _ (Heap.get?_push_size _ rfl)))
end
theorem EK (sc:Scope)(N0:List Str)(tns:List Str)(caps:List (Nat×Str))(hc:X.calm=true)(hi:PI X tg iter wi)(hG:Ut tns.length g)
  (hb:∀cl C s H ex E,PG (X.comp (tns++caps.map (·.2)) scope cl C s H ex E) tg g/\PTs (X.comp (tns++caps.map (·.2)) scope cl C s H ex E) ifs tt/\PE (X.comp (tns++caps.map (·.2)) scope cl C s H ex E) elt te)
  (hsc:X.env.scope=sc:=by rfl)(hN0:X.N=N0:=by rfl)(ok:U2 sc scope N0 tns caps=true:=by decide+kernel)
  (hs:∀x,foldedSetIterable iter X.env x=pure x:=by intro _;rfl):
  PE X (.ListComp elt [⟨tg,iter,ifs,0⟩] scope pos) (FD tns.length caps wi g tt te):=by
 intro pins s σ H Q I h
 have okc:=COk.of hsc hN0 ok
 obtain⟨cl,ecl,hsub,hall⟩:=DN (scope:=scope) (env:=X.env) λx hx hfr=>I.ok.has x.1 (.inl (okc.free x hx hfr))
 rw[eval_ListComp]
 exact wpAny_comprehension_free (use:=none) rfl hs ecl okc.kind okc.loc (thn (hi pins s σ H _ I h) λxv s₁ h₁=>thn h₁ λitv s₂ h₂=>
  VF (RR:=λacc C=>compPost (model X.prog X.w) X.A X.xe none (EP X pins σ Q) acc C) okc hc rfl hG hb h₂ hsub hall λD C ys H3 s' ce q=>ce.ns.elim λmm hns=>
   ⟨mm,hns,λh' hs'=>⟨.ref D,_,ce.inv.turned (t':=s'.toks) (λb o hb' e=>(hs'.extBut b o hb' e)) ce.fp.1 ce.fp.2.1 ce.fp.2.2.2.1 ce.fp.2.2.2.2.1 ce.fp.2.2.2.2.2,rfl,q⟩⟩)
theorem Um {x:Str}{px spos:Pos}(j:Nat)(sc:Scope)(N0:List Str)(tns:List Str)(caps:List (Nat×Str))(hc:X.calm=true)(hN:X.N.Nodup)(hj:X.N[j]?=some x)(hx:X.env.scope.names.lookup x=some .local)(hi:PI X tg iter wi)(hG:Ut tns.length g)
  (hb:∀cl C s H ex E,PG (X.comp (tns++caps.map (·.2)) scope cl C s H ex E) tg g/\PTs (X.comp (tns++caps.map (·.2)) scope cl C s H ex E) ifs tt/\PE (X.comp (tns++caps.map (·.2)) scope cl C s H ex E) elt te)
  (hsc:X.env.scope=sc:=by rfl)(hN0:X.N=N0:=by rfl)(ok:U2 sc scope N0 tns caps=true:=by decide+kernel)
  (hsw:swapsWith (.ListComp elt [⟨tg,iter,ifs,0⟩] scope pos) (some (.Name x px)) spos.line X.env=pure true:=by rfl)
  (hs:∀x,foldedSetIterable iter X.env x=pure x:=by intro _;rfl):
  PS X (.Assign [.Name x px] (.ListComp elt [⟨tg,iter,ifs,0⟩] scope pos) spos) (FU (FD tns.length caps wi g tt te) (Z2 j)):=by
 intro pins s σ H D I h
 have okc:=COk.of hsc hN0 ok
 obtain⟨cl,ecl,hsub,hall⟩:=DN (scope:=scope) (env:=X.env) λx hx hfr=>I.ok.has x.1 (.inl (okc.free x hx hfr))
 rw[exec_Assign_Name_used _ _ _ _ hsw]
 refine wpAny_bind (wpAny_standAt (wpAny_bind ?_))
 show wpAny _ _ (do let _ ←comprehension (.ListComp elt [⟨tg,iter,ifs,0⟩] scope pos) scope X.env _ (newList []) false (eval iter X.env) (some (assign (.Name x px) X.env))) _ _ s
 refine wpAny_bind (thn (wpAny_comprehension_free (use:=some (assign (.Name x px) X.env)) (Q:=λ_ s'=>SP X pins D .next s') rfl hs ecl okc.kind okc.loc
  (thn (hi pins s σ H _ I h) λxv s₁ h₁=>thn h₁ λitv s₂ h₂=>?_)) λ_ s' hq=>wpAny_pure (wpAny_pure hq))
 refine VF (Q:=λv H1=>Z2 j v σ H1 D.nx) (RR:=λacc C=>compPost (model X.prog X.w) X.A X.xe (some (assign (.Name x px) X.env)) (λ_ s'=>SP X pins D .next s') acc C) okc hc rfl hG hb h₂ hsub hall ?_
 intro DD C ys H3 s' ce q
 obtain⟨mm,hns⟩:=ce.ns
 obtain⟨c0,c1,c2,c3,c4,c5⟩:=ce.fp
 show wpAny _ _ (assign (.Name x px) X.env (.ref DD)) _ _ _
 refine wpAny_assign_Name (UJ ce.inv hN hj (.inl hx) (v:=.ref DD) rfl (λs2 I2 chg=>?_) (.inr hx))
 obtain⟨c,hsb,hcc⟩:=chg
 have hCc:C≠c:=by
  rcases hcc with z |z
  ·rw[z];exact c1
  ·exact λe=>c4 x c z e.symm
 refine⟨mm,?_,λh' hs'=>?_⟩
 ·obtain⟨o,es,ep,ho,r⟩:=hns
  exact⟨o,es,ep,(hsb.2 C hCc).trans ho,r⟩
 ·exact⟨_,_,I2.turned (t':=s2.toks) (λb o hb' e=>(hs'.extBut b o hb' e)) c0 c1 c3 c4 c5,q⟩
end
section
variable {K:PySem.W.Frag}{a:Addr}{xs:List V}{n:Nat}{caps:List (Nat×Str)}{g:TG}{tt:TT}{te:TE}{σ:St}{H:Hp}{Q:V->Hp->Prop}
end
section
variable {X:Cx}{pos:Pos}
noncomputable def DT (K:PySem.W.Frag):List V->Hp->VK->Prop:=λxs H Q=>∃ p ys,xs=[.ref p]/\(SqL K H p ys∨SqT K H p ys)/\∀l,H l=none->Q (.ref l) (upd H l (.lst ys))
noncomputable def Ka (K:PySem.W.Frag):List V->Hp->VK->Prop:=λxs H Q=>∃ p ys,xs=[.ref p]/\(SqL K H p ys∨SqT K H p ys)/\Q (.int ys.length) H
theorem YI (K:PySem.W.Frag)(h:X.K=K):Qj X (.type "list") (DT K):=by subst h;exact U4
theorem Xj (K:PySem.W.Frag)(h:X.K=K):Qj X (.builtin "len") (Ka K):=by subst h;exact U0
theorem Xi (K:PySem.W.Frag)(h:X.K=K):IxR X (BS K):=by subst h;exact BX
theorem XY (K:PySem.W.Frag)(h:X.K=K):IxR X (Bo K):=by subst h;exact IB
theorem JE (K:PySem.W.Frag)(h:X.K=K):SlR X (IP K):=by subst h;exact B7
theorem EJ (K:PySem.W.Frag)(h:X.K=K){es:List Expr}{k:Nat}{t:TGs}{n:Nat}(hc:X.calm=true)(hh:PGs X es t)
  (hn:(assignEach es X.env).length=n:=by rfl)(hst:(assignEach es X.env).findIdx? (·.1)=none:=by rfl):PG X (.Tuple es k pos) (Hg K n t):=by subst h;exact Qt hc hh hn hst
end
structure Fn (P:Program)(w:World)(K:PySem.W.Frag)(mg:Str->Option Value)(base:Heap)(k:Nat)(x:Str)(ps:List Str)(sp:Sp):Prop where
 ex:∃f fd,FnOk P w K mg base CX0 k f fd ps sp/\Vt K fd ps []/\PySem.W.keepIn K (.ref f)=true/\mg x=some (.ref f)
section
variable {X:Cx}{k j:Nat}{x:Str}{ps:List Str}{sp:Sp}{e:Expr}{es:List Expr}{t:TA}{p pos:Pos}
theorem Yj (G:Fn X.prog X.w X.K X.mg X.base k x ps sp)(hr:Room j X.A)(hj:k<=j)(ha:PA X (e::es) t)(hg:Gl X x:=by rfl)(hdb:(x==("__debug__":Str))=false:=by decide)
  (he:starEach (e::es) X.env=(false,eval e X.env)::starEach es X.env:=by rfl)(hpl:(backTo pos (starEach es X.env)).any (·.1)=false:=by rfl):
  PE X (.Call (.Name x p) (e::es) [] pos) (UW sp [] E0 t):=by
 obtain⟨f,fd,F,b,kp,m⟩:=G.ex
 exact Fa F (hr.mono hj) hg m kp b .nil Lu ha hdb he hpl
end
noncomputable def Def (K:PySem.W.Frag)(mg:Str->Option Value)(x:Str)(st:Stmt)(ps:List Str):Prop:=∃ f fd,Fun K x x st f fd/\Vt K fd ps []/\mg x=some (.ref f)
theorem Zq {P:Program}{w:World}{K:PySem.W.Frag}{mg:Str->Option Value}{base:Heap}{x:Str}{st:Stmt}{N ps:List Str}{k:Nat}{sp:Sp}(D:Def K mg x st ps)(S:FnScope N ps (Xk st))(len:∀vs H Q E,sp vs H Q E->vs.length=ps.length)
  (hbody:∀(f:Addr) (cdv:Value) (A:Around) (outer:List Env) (s:Shared) (H:Hp) (vs:List V) (Q:VK) (E:XK),Room k (A.deeper (envOfC x (Xk st) s.heap.objs.size f cdv))->sp vs H Q E->
   ∃t,PSs (G0 CX0 P w K mg base N x (Xk st) f cdv A outer s H E).nox (Yi st) t/\t {nx:=λ_ H'=>Q .non H',rt:=Q} (Vw N vs) H):Fn P w K mg base (k+1) x ps sp:=by
 obtain⟨f,fd,F,b,m⟩:=D
 exact⟨f,fd,F.ok S len (hbody f),b,F.kp,m⟩
theorem Kl {a d c:Nat}(h:d<=8)(hu:a+8<c):a+d<c:=by (first|lia|omega)
theorem X1 {H:Hp}{p:Addr}(h:H p=none)(o:HO):Xw H (upd H p o):=λb u q=>by rw[Xv (XF q h)];exact q
theorem Xw.own {H H2:Hp}{p:Addr}(s:Xw H H2)(h:H p=none)(o:HO):Xw H (upd H2 p o):=λb u q=>by rw[Xv (XF q h)];exact s b u q
theorem Xw.new {H H2:Hp}{p:Addr}(s:Xw H H2)(h:H2 p=none)(o:HO):Xw H (upd H2 p o):=s.trans (X1 h o)
theorem Xw.seqT {K:PySem.W.Frag}{H H':Hp}{a:Addr}{xs:List V}(e:Xw H H')(h:SqT K H a xs):SqT K H' a xs:=by
 rcases h with(h | ⟨o,h⟩) |h
 ·exact .inl (.inl (e _ _ h))
 ·exact .inl (.inr ⟨o,e _ _ h⟩)
 ·exact .inr h
theorem hu8 {A:Around}{k:Nat}(hr:Room k A):A.units+8<cLine:=Nat.lt_of_le_of_lt (Nat.add_le_add_left (by decide:8<=64) _) hr.units
noncomputable abbrev Enc (α:Type):=PySem.W.Frag->Hp->V->α->Prop
noncomputable def Xa:Enc Int:=λ_ _ v i=>v= .int i
noncomputable def rL {α:Type}(r:Enc α):Enc (List α):=λK H v as=>∃ a xs,v= .ref a/\SqL K H a xs/\Paired (r K H) xs as
noncomputable def rT2 {α β:Type}(r:Enc α)(q:Enc β):Enc (α×β):=λK H v p=>∃ a x y,v= .ref a/\SqT K H a [x,y]/\r K H x p.1/\q K H y p.2
theorem Paired.getL {α β:Type}{F:α->β->Prop}:∀{l:List α}{m:List β}{i:Nat}{a:α},Paired F l m->l[i]?=some a->∃b,m[i]?=some b/\F a b
 |_,_,_,_, .nil,e=>by simp at e
 |_,_,0,_, .cons r _,e=>by simp at e;subst e;exact⟨_,rfl,r⟩
 |_,_,i+1,a, .cons _ t,e=>by
  obtain⟨b,h1,h2⟩:=Paired.getL (i:=i) (a:=a) t (by simpa using e)
  exact⟨b,by simpa using h1,h2⟩
theorem Paired.getR {α β:Type}{F:α->β->Prop}:∀{l:List α}{m:List β}{i:Nat}{b:β},Paired F l m->m[i]?=some b->∃a,l[i]?=some a/\F a b
 |_,_,_,_, .nil,e=>by simp at e
 |_,_,0,_, .cons r _,e=>by simp at e;subst e;exact⟨_,rfl,r⟩
 |_,_,i+1,b, .cons _ t,e=>by
  obtain⟨a,h1,h2⟩:=Paired.getR (i:=i) (b:=b) t (by simpa using e)
  exact⟨a,by simpa using h1,h2⟩
theorem Paired.len {α β:Type}{F:α->β->Prop}{l:List α}{m:List β}(h:Paired F l m):l.length=m.length:=Paired.length h
theorem Paired.app {α β:Type}{F:α->β->Prop}:∀{l l':List α}{m m':List β},Paired F l m->Paired F l' m'->Paired F (l++l') (m++m'):=λp h=>by
 induction p with
 |nil=>exact h
 |cons r _ ih=>exact .cons r ih
theorem Ky (ns:List Int):∀{K:PySem.W.Frag}{H:Hp},Paired (Xa K H) (ns.map V.int) ns:=by
 intro K H
 induction ns with
 |nil=>exact .nil
 |cons n r ih=>exact .cons rfl ih
structure EqOk {α:Type}[DecidableEq α](r:Enc α)(d:Nat):Prop where
 uniq:∀{X:Cx}{pins:List (Addr×Obj)}{σ:St}{H:Hp}{s:Shared}{x:V}{a b:α},Inv X pins σ H s->r X.K H x a->r X.K H x b->a=b
 eq:∀{X:Cx}{pins:List (Addr×Obj)}{σ:St}{H:Hp}{s:Shared}{x y:V}{v u:Value}{a b:α}{A:Around},Inv X pins σ H s->X8 x v->X8 y u->r X.K H x a->r X.K H y b->A.units+d<cLine->SeqAt.EqAt A s v u (decide (a=b))
 rc:∀{X:Cx}{pins:List (Addr×Obj)}{σ:St}{H:Hp}{s:Shared}{x y:V}{v u:Value}{a b:α}{A:Around},Inv X pins σ H s->X8 x v->X8 y u->r X.K H x a->r X.K H y b->A.units+d<cLine->SeqAt.RcAt A s v u (decide (a=b))
 ne:∀{X:Cx}{pins:List (Addr×Obj)}{σ:St}{H:Hp}{s:Shared}{x y:V}{v u:Value}{a b:α}{A:Around},Inv X pins σ H s->X8 x v->X8 y u->r X.K H x a->r X.K H y b->A.units+d<cLine->SeqAt.RcNeAt A s v u (!decide (a=b))
 keep:∀{K:PySem.W.Frag}{H H':Hp}{x:V}{a:α},Xw H H'->r K H x a->r K H' x a
theorem EqOk.up {α:Type}[DecidableEq α]{r:Enc α}{d e:Nat}(E:EqOk r d)(h:d<=e):EqOk r e:=
 ⟨E.uniq,λI rx ry h1 h2 hu=>E.eq I rx ry h1 h2 (by (first|lia|omega)),λI rx ry h1 h2 hu=>E.rc I rx ry h1 h2 (by (first|lia|omega)),λI rx ry h1 h2 hu=>E.ne I rx ry h1 h2 (by (first|lia|omega)),E.keep⟩
theorem Vf (A:Around):A.in1.units=A.units+1:=rfl
theorem Cv {a b:Int}:(a==b)=decide (a=b):=by rw[Bool.eq_iff_iff];simp
theorem eq_int:EqOk Xa 0 where
 uniq:=λ_ h1 h2=>by
  have h1':_=V.int _:=h1
  have h2':_=V.int _:=h2
  rw[h1'] at h2';injection h2'
 eq:=fun {X pins σ H s x y v u a b A} I rx ry h1 h2 _=>by
  have h1':x=V.int a:=h1
  have h2':y=V.int b:=h2
  subst h1' h2'
  obtain⟨t,rfl⟩:=rx
  obtain⟨t',rfl⟩:=ry
  rw[←Cv];exact SeqAt.EqAt.int_int a t b t'
 rc:=fun {X pins σ H s x y v u a b A} I rx ry h1 h2 _=>by
  have h1':x=V.int a:=h1
  have h2':y=V.int b:=h2
  subst h1' h2'
  obtain⟨t,rfl⟩:=rx
  obtain⟨t',rfl⟩:=ry
  rw[←Cv];exact SeqAt.RcAt.int_int a t b t'
 ne:=fun {X pins σ H s x y v u a b A} I rx ry h1 h2 _=>by
  have h1':x=V.int a:=h1
  have h2':y=V.int b:=h2
  subst h1' h2'
  obtain⟨t,rfl⟩:=rx
  obtain⟨t',rfl⟩:=ry
  rw[←Cv];exact SeqAt.RcNeAt.int_int a t b t'
 keep:=λ_ h=>h
theorem Kx {α:Type}[DecidableEq α]{as bs:List α}(h:as.length=bs.length):(List.range as.length).all (λj=>decide (as[j]?=bs[j]?))=decide (as=bs):=by
 rw[Bool.eq_iff_iff]
 simp only[List.all_eq_true,List.mem_range,decide_eq_true_eq]
 constructor
 ·intro hh
  apply List.ext_getElem?
  intro i
  by_cases hi:i<as.length
  ·exact hh i hi
  ·rw[List.getElem?_eq_none (by (first|lia|omega)),List.getElem?_eq_none (by (first|lia|omega))]
 ·rintro rfl;intros;rfl
theorem Paired.uniq {α β:Type}{F:α->β->Prop}(hu:∀a b c,F a b->F a c->b=c):∀{l:List α}{m m':List β},Paired F l m->Paired F l m'->m=m':=fun {l m m'} p=>by
 induction p generalizing m' with
 |nil=>intro q;cases q;rfl
 |cons r _ ih=>intro q;cases q with |cons r' t'=>rw[hu _ _ _ r r',ih t']
theorem Paired.imp2 {α β:Type}{F G:α->β->Prop}(h:∀a b,F a b->G a b):∀{l:List α}{m:List β},Paired F l m->Paired G l m:=λp=>by
 induction p with
 |nil=>exact .nil
 |cons r _ ih=>exact .cons (h _ _ r) ih
section
variable {α:Type}[DecidableEq α]{r:Enc α}{d:Nat}
theorem Qf (E:EqOk r d){X:Cx}{pins:List (Addr×Obj)}{σ:St}{H:Hp}{s:Shared}{A:Around}(I:Inv X pins σ H s)(hu:A.units+(d+1)<cLine){xs ys:List V}{as bs:List α}{its its2:List Value}
  (r1:Yg xs its)(r2:Yg ys its2)(p1:Paired (r X.K H) xs as)(p2:Paired (r X.K H) ys bs):
  ∀j (h1:j<its.toArray.size) (h2:j<its2.toArray.size),SeqAt.EqAt A.in1 s its.toArray[j] its2.toArray[j] (decide (as[j]?=bs[j]?)):=by
 intro j h1 h2
 have h1':j<its.length:=by simpa using h1
 have h2':j<its2.length:=by simpa using h2
 obtain⟨x,ex,rx⟩:=Paired.getR (i:=j) (b:=its[j]) r1 (by simp[h1'])
 obtain⟨y,ey,ry⟩:=Paired.getR (i:=j) (b:=its2[j]) r2 (by simp[h2'])
 obtain⟨a,ea,ra⟩:=Paired.getL p1 ex
 obtain⟨b,eb,rb⟩:=Paired.getL p2 ey
 have:=E.eq (A:=A.in1) I rx ry ra rb (by rw[Vf];(first|lia|omega))
 rw[ea,eb]
 simpa using this
theorem BZ (E:EqOk r d):EqOk (rL r) (d+1):=by
 have un:∀{X:Cx}{pins:List (Addr×Obj)}{σ:St}{H:Hp}{s:Shared}{x:V}{a b:List α},Inv X pins σ H s->rL r X.K H x a->rL r X.K H x b->a=b:=by
  intro X pins σ H s x as bs I h1 h2
  obtain⟨a,xs,rfl,q1,p1⟩:=h1
  obtain⟨b,ys,e,q2,p2⟩:=h2
  cases e
  cases I.list_inj q1 q2
  exact Paired.uniq (F:=r X.K H) (λ_ _ _ z z'=>E.uniq I z z') p1 p2
 have rc:∀{X:Cx}{pins:List (Addr×Obj)}{σ:St}{H:Hp}{s:Shared}{x y:V}{v u:Value}{a b:List α}{A:Around},Inv X pins σ H s->X8 x v->X8 y u->rL r X.K H x a->rL r X.K H y b->A.units+(d+1)<cLine->SeqAt.RcAt A s v u (decide (a=b)):=by
  intro X pins σ H s x y v u as bs A I rx ry h1 h2 hu
  obtain⟨a,xs,rfl,q1,p1⟩:=h1
  obtain⟨b,ys,rfl,q2,p2⟩:=h2
  cases rx;cases ry
  obtain⟨its,r1,l1,_⟩:=I.list q1
  obtain⟨its2,r2,l2,_⟩:=I.list q2
  have n1:=r1.length
  have n2:=r2.length
  have m1:=Paired.len p1
  have m2:=Paired.len p2
  by_cases hl:as.length=bs.length
  ·have:=SeqAt.RcAt.lists (A:=A) (e:=λj=>decide (as[j]?=bs[j]?)) l1.isList l2.isList (by simp only[List.size_toArray];(first|lia|omega)) (by (first|lia|omega)) (Qf E I hu r1 r2 p1 p2)
   rw[show its.toArray.size=as.length by simp only[List.size_toArray];(first|lia|omega),Kx hl] at this
   exact this
  ·rw[decide_eq_false (λe=>hl (congrArg List.length e))]
   exact SeqAt.RcAt.lists_lengths l1.isList l2.isList (by simp only[List.size_toArray,bne_iff_ne];(first|lia|omega)) (by (first|lia|omega))
 refine⟨un,?_,rc,?_,?_⟩
 ·intro X pins σ H s x y v u as bs A I rx ry h1 h2 hu
  obtain⟨a,xs,rfl,q1,p1⟩:=id h1
  obtain⟨b,ys,rfl,q2,p2⟩:=id h2
  have R:=rc (A:=A) I rx ry h1 h2 hu
  cases rx;cases ry
  by_cases e:a=b
  ·subst e
   rw[decide_eq_true (un I h1 h2)]
   exact SeqAt.EqAt.same _
  ·exact SeqAt.EqAt.of_refs e R
 ·intro X pins σ H s x y v u as bs A I rx ry h1 h2 hu
  obtain⟨a,xs,rfl,q1,p1⟩:=h1
  obtain⟨b,ys,rfl,q2,p2⟩:=h2
  cases rx;cases ry
  obtain⟨its,r1,l1,_⟩:=I.list q1
  obtain⟨its2,r2,l2,_⟩:=I.list q2
  have n1:=r1.length
  have n2:=r2.length
  have m1:=Paired.len p1
  have m2:=Paired.len p2
  by_cases hl:as.length=bs.length
  ·have:=SeqAt.RcNeAt.lists (A:=A) (e:=λj=>decide (as[j]?=bs[j]?)) l1.isList l2.isList (by simp only[List.size_toArray];(first|lia|omega)) (by (first|lia|omega)) (Qf E I hu r1 r2 p1 p2)
   rw[show its.toArray.size=as.length by simp only[List.size_toArray];(first|lia|omega),Kx hl] at this
   exact this
  ·rw[decide_eq_false (λe=>hl (congrArg List.length e))]
   exact SeqAt.RcNeAt.lists_lengths l1.isList l2.isList (by simp only[List.size_toArray,bne_iff_ne];(first|lia|omega)) (by (first|lia|omega))
 ·intro K H H' x as e h
  obtain⟨a,xs,rfl,q1,p1⟩:=h
  exact⟨a,xs,rfl,e.seq q1,Paired.imp2 (λ_ _ z=>E.keep e z) p1⟩
end
section
variable {α β:Type}[DecidableEq α][DecidableEq β]{r:Enc α}{q:Enc β}{d:Nat}
theorem K5 {a1 a2:α}{b1 b2:β}:(decide (a1=a2)&&decide (b1=b2))=decide ((a1,b1)=(a2,b2)):=by
 rw[Bool.eq_iff_iff];simp
theorem El (E:EqOk r d)(F:EqOk q d):EqOk (rT2 r q) (d+1):=by
 have un:∀{X:Cx}{pins:List (Addr×Obj)}{σ:St}{H:Hp}{s:Shared}{x:V}{a b:α×β},Inv X pins σ H s->rT2 r q X.K H x a->rT2 r q X.K H x b->a=b:=by
  rintro X pins σ H s x ⟨a1,a2⟩ ⟨b1,b2⟩ I h1 h2
  obtain⟨a,x1,x2,rfl,q1,p1,p2⟩:=h1
  obtain⟨b,y1,y2,e,q2,p3,p4⟩:=h2
  cases e
  cases I.tuple_inj q1 q2
  rw[show a1=b1 from E.uniq I p1 p3,show a2=b2 from F.uniq I p2 p4]
 have its:∀{X:Cx}{pins:List (Addr×Obj)}{σ:St}{H:Hp}{s:Shared}{x1 x2 y1 y2:V}{u1 u2 w1 w2:Value}{a b:α×β}{A:Around},Inv X pins σ H s->X8 x1 u1->X8 x2 u2->X8 y1 w1->X8 y2 w2->
   r X.K H x1 a.1->q X.K H x2 a.2->r X.K H y1 b.1->q X.K H y2 b.2->A.units+(d+1)<cLine->
   ∀j (h1:j< [u1,u2].toArray.size) (h2:j< [w1,w2].toArray.size),SeqAt.EqAt A.in1 s [u1,u2].toArray[j] [w1,w2].toArray[j] ((λj=>if j=0 then decide (a.1=b.1) else decide (a.2=b.2)) j):=by
  intro X pins σ H s x1 x2 y1 y2 u1 u2 w1 w2 a b A I e1 e2 e3 e4 p1 p2 p3 p4 hu j h1 h2
  have hj:j=0∨j=1:=by
   have h1':j<2:=h1
   (first|lia|omega)
  rcases hj with rfl |rfl
  ·exact E.eq (A:=A.in1) I e1 e3 p1 p3 (by rw[Vf];(first|lia|omega))
  ·exact F.eq (A:=A.in1) I e2 e4 p2 p4 (by rw[Vf];(first|lia|omega))
 have rc:∀{X:Cx}{pins:List (Addr×Obj)}{σ:St}{H:Hp}{s:Shared}{x y:V}{v u:Value}{a b:α×β}{A:Around},Inv X pins σ H s->X8 x v->X8 y u->rT2 r q X.K H x a->rT2 r q X.K H y b->A.units+(d+1)<cLine->SeqAt.RcAt A s v u (decide (a=b)):=by
  rintro X pins σ H s x y v u ⟨a1,a2⟩ ⟨b1,b2⟩ A I rx ry h1 h2 hu
  obtain⟨a,x1,x2,rfl,q1,p1,p2⟩:=h1
  obtain⟨b,y1,y2,rfl,q2,p3,p4⟩:=h2
  cases rx;cases ry
  obtain⟨i1,r1,l1,_⟩:=I.tuple q1
  obtain⟨i2,r2,l2,_⟩:=I.tuple q2
  obtain⟨u1,u2,rfl,e1,e2⟩:=Yg.two r1
  obtain⟨w1,w2,rfl,e3,e4⟩:=Yg.two r2
  have:=SeqAt.RcAt.tuples (A:=A) l1 l2 (by (first|lia|omega)) (its (a:=(a1,a2)) (b:=(b1,b2)) I e1 e2 e3 e4 p1 p2 p3 p4 hu)
  rw[←K5]
  simpa[List.range_succ] using this
 refine⟨un,?_,rc,?_,?_⟩
 ·intro X pins σ H s x y v u as bs A I rx ry h1 h2 hu
  obtain⟨a,x1,x2,rfl,q1,p1,p2⟩:=id h1
  obtain⟨b,y1,y2,rfl,q2,p3,p4⟩:=id h2
  have R:=rc (A:=A) I rx ry h1 h2 hu
  cases rx;cases ry
  by_cases e:a=b
  ·subst e
   rw[decide_eq_true (un I h1 h2)]
   exact SeqAt.EqAt.same _
  ·exact SeqAt.EqAt.of_refs e R
 ·rintro X pins σ H s x y v u ⟨a1,a2⟩ ⟨b1,b2⟩ A I rx ry h1 h2 hu
  obtain⟨a,x1,x2,rfl,q1,p1,p2⟩:=h1
  obtain⟨b,y1,y2,rfl,q2,p3,p4⟩:=h2
  cases rx;cases ry
  obtain⟨i1,r1,l1,_⟩:=I.tuple q1
  obtain⟨i2,r2,l2,_⟩:=I.tuple q2
  obtain⟨u1,u2,rfl,e1,e2⟩:=Yg.two r1
  obtain⟨w1,w2,rfl,e3,e4⟩:=Yg.two r2
  have:=SeqAt.RcNeAt.tuples (A:=A) l1 l2 (by (first|lia|omega)) (its (a:=(a1,a2)) (b:=(b1,b2)) I e1 e2 e3 e4 p1 p2 p3 p4 hu)
  rw[←K5]
  simpa[List.range_succ] using this
 ·intro K H H' x as e h
  obtain⟨a,x1,x2,rfl,q1,p1,p2⟩:=h
  exact⟨a,x1,x2,rfl,e.seqT q1,E.keep e p1,F.keep e p2⟩
end
section
variable {X:Cx}{α:Type}[DecidableEq α]{r:Enc α}{d:Nat}
noncomputable def LP (K:PySem.W.Frag)(r:Enc α):R2:=λx y H Q=>∃ a b,r K H x a/\r K H y b/\Q (.bl (decide (a=b))) H
noncomputable def LM (K:PySem.W.Frag)(r:Enc α):R2:=λx y H Q=>∃ a b,r K H x a/\r K H y b/\Q (.bl (!decide (a=b))) H
theorem Bu (E:EqOk r d)(hu:X.A.units+d<cLine):OpR X (compareOp .Eq) (LP X.K r):=by
 intro pins s σ H x y v u Q I rx ry h
 obtain⟨a,b,h1,h2,q⟩:=h
 exact E.rc (A:=X.A) I rx ry h1 h2 hu _ _ _ _ ⟨.bl _,H,I,rfl,q⟩
theorem U8 (E:EqOk r d)(hu:X.A.units+d<cLine):OpR X (compareOp .NotEq) (LM X.K r):=by
 intro pins s σ H x y v u Q I rx ry h
 obtain⟨a,b,h1,h2,q⟩:=h
 exact E.ne (A:=X.A) I rx ry h1 h2 hu _ _ _ _ ⟨.bl _,H,I,rfl,q⟩
theorem Ys:Qj X (.builtin "isinstance") (λxs H Q=>∃ x n t b,xs=[x, .ty n]/\TyOf X.K H x t/\PySem.W.kitOne X.K t (.type n)=some b/\Q (.bl b) H):=by
 intro pins s σ H xs us Q I r h
 obtain⟨x,n,t,b,rfl,ty,e,q⟩:=h
 obtain⟨u,v,rfl,ru,rv⟩:=Yg.two r
 cases(show v=Value.type n from rv)
 exact FY I ru ty e λtk=>⟨.bl b,H,I.tok tk,rfl,q⟩
theorem K9:OpR X (binaryOp .FloorDiv) (rI (λ_ j=>0<j/\j.natAbs.log2<9000) λi j=>.int (i/j)):=opI λi j _ _ _ _ _ hc q=>by
 refine floordiv_int (by (first|lia|omega)) ?_ (.inl (PyProof.noPylong_of_log2 hc.2))
 rw[Int.fdiv_eq_ediv_of_nonneg i (by (first|lia|omega))]
 exact q
end
end L2
namespace PySem
open Sem (wp)
section
variable {prog:Program}{w:World}{A:Around}{E:Value->Shared->Prop}{s:Shared}
end
end PySem
namespace L2
open PySem PySem.Spec PyProof.Rows
section
variable {X:Cx}{e:Expr}{te:TE}
end
section
variable {X:Cx}{pins:List (Addr×Obj)}{σ:St}{H:Hp}{s:Shared}{h':Heap}
theorem Inv.turnLay {t':Nat}{ch:List Addr}{T:Addr}{u:HO}(I:Inv X pins σ H s)(k:∀b o,b∉ch->s.heap.get? b=some o->h'.get? b=some o)(hf:∀b∈ch,K0 X pins H b)
  (hp:s.heap.objs.size<=T)(new:YB X.prog X.w (upd H T u) h' T u):Inv X pins σ (upd H T u) {s with heap:=h',toks:=t'}:=by
 have hn:H T=none:=I.hok.fresh hp
 have nit:∀b o,H b=some o->b∉ch:=λb o e z=>by rw[(hf b z).1] at e;cases e
 refine I.step (g':=s.gens) (d':=s.drawn) (ch:=ch) (λb hb=>?_) (λb o _ _ hc e _=>k b o hc e) (λb o _ _ hc e _=>⟨o.slots,k b o hc e⟩)
  (λb o _ e n=>by rw[Xv (Nat.ne_of_lt (Nat.lt_of_lt_of_le (Heap.lt_size e) hp))];exact n)
  (λb o hc e=>⟨o,k b o hc e⟩) (λb xs e=>by rw[Xv (XF e hn)];exact e) (λb o xs e=>by rw[Xv (XF e hn)];exact e) (λb ps e=>⟨#[],by rw[Xv (XF e hn),e];simp⟩) (λm hm=>?_) (λb v e=>?_) I.bare
 ·obtain⟨f0,f1,f2,f3,f4,f5⟩:=hf b hb
  exact⟨f3,f1,f4,f5⟩
 ·obtain⟨o,es,ep,ho,r⟩:=hm
  exact⟨o,es,ep,k _ o (λz=>(hf _ z).2.1 rfl) ho,r⟩
 ·by_cases hb:b=T
  ·subst hb;rw[XL] at e;cases e;exact new
  ·rw[Xv hb] at e
   refine(I.hok b v e).stay (λc o hc q=>k c o ?_ q) (λc q=>by rw[Xv (XF q hn)];exact q) λc xs q=>by rw[Xv (XF q hn)];exact q
   rcases hc with z |z
   ·rw[z];exact nit b v e
   ·exact nit c _ z
end
noncomputable def Ite (K:PySem.W.Frag)(a:Addr):It:=
 ⟨λi H=>∃ xs x,SqL K H a xs/\xs[i]?=some x,λi H y H'=>∃ p x,y= .ref p/\H p=none/\H'=upd H p (.tup [.int (i:Int),x])/\∀xs,SqL K H a xs->xs[i]?=some x,λi H=>∃ xs,SqL K H a xs/\xs.length<=i⟩
theorem FE {P:Program}{w:World}{K:PySem.W.Frag}{elts:List Expr}{k:Nat}{pos:Pos}(a e it:Addr)(h1:e≠it)(h2:a≠e)(h3:a≠it):
  Turn P w K (.Tuple elts k pos) (Ite K a) [e,it] e (λi h=>(∃old,IsEnum h e it (i:Int) old)/\h.IsListIter it a i) where
 mem:=by simp
 obj:=λi h st b hb=>by
  obtain⟨⟨old,eo⟩,o,io,c,d⟩:=st
  rcases List.mem_cons.mp hb with z |z
  ·subst z
   exact⟨_,eo,λv z=>by cases z⟩
  ·have z:=List.mem_singleton.mp z
   subst z
   exact⟨o,io,λv z=>by rw[d] at z;cases z⟩
 keep:=λi h h' st k=>⟨let ⟨old,eo⟩:=st.1;⟨old,k e (by simp) _ eo⟩,st.2.at λo q=>k it (by simp) o q⟩
 item:=by
  intro X hP hw hK hc i pins s σ H E I hf st hg
  subst hP hw hK
  obtain⟨xs,x,hq,hx⟩:=hg
  obtain⟨its,rv,p,hz⟩:=I.list hq
  obtain⟨u,hu,ru⟩:=rv.get hx
  obtain⟨⟨old,eo⟩,io⟩:=id st
  have hu':its.toArray[i]?=some u:=by simpa using hu
  have W:=WalksT.enumerate (prog:=X.prog) (w:=X.w) (A:=X.A) (I.ok.hd hc) e it a h1 h2 h3 its.toArray
  refine wpAny_pyNext_enum_item eo io p.isList hu' h1 λh' eo' io' tup sz kk=>?_
  have hT:∀b o,s.heap.get? b=some o->s.heap.objs.size≠b:=λb o q z=>absurd (Heap.lt_size q) (by rw[←z];exact Nat.lt_irrefl _)
  have hTe:=hT e _ eo
  have hTi:s.heap.objs.size≠it:=by obtain⟨o,q,_⟩:=io;exact hT it o q
  have ha':h'.IsList a its.toArray:=p.isList.at λo q=>kk a o h2 h3 q
  refine⟨_,rfl,W.go elts k pos i s.heap.objs.size _ _ _ ⟨⟨_,eo'⟩,io',ha',hTe,hTi⟩ λh'' st' kk'=>?_⟩
  obtain⟨st2,io2,_⟩:=st'
  have tup2:=kk' _ _ (by simp[hTe,hTi]) tup
  have k2:∀b o,b∉ [e,it]->s.heap.get? b=some o->h''.get? b=some o:=λb o q1 q=>kk' b o q1 (kk b o (λz=>q1 (by simp[z])) (λz=>q1 (by simp[z])) q)
  refine⟨.ref s.heap.objs.size,upd H s.heap.objs.size (.tup [.int (i:Int),x]),I.turnLay (h':=h'') (t':=s.toks+1) k2 hf (Nat.le_refl _) ⟨by show 2<=sizeLine;decide,[.int (i:Int) s.toks,u], .cons ⟨_,rfl⟩ (.cons ru .nil),⟨_,tup2,⟨rfl,rfl⟩,_,rfl⟩⟩,rfl,
   ⟨_,x,rfl,I.hok.fresh (Nat.le_refl _),rfl,λys hy=>by rw[I.list_inj hy hq];exact hx⟩,⟨by simpa using st2,io2⟩,λb hb=>?_⟩
  rcases List.mem_cons.mp hb with z |z
  ·rw[z,Xv hTe.symm];exact(hf e (by simp)).1
  ·rw[List.mem_singleton.mp z,Xv hTi.symm];exact(hf it (by simp)).1
 done:=by
  intro X hP hw hK hc i pins s σ H E I hf st hg
  subst hP hw hK
  obtain⟨xs,hq,hx⟩:=hg
  obtain⟨its,rv,p,hz⟩:=I.list hq
  obtain⟨⟨old,eo⟩,io⟩:=id st
  obtain⟨f0,f1,f2,f3,f4,f5⟩:=hf it (by simp)
  have hl:=rv.length
  exact wpAny_pyNext_enum_end (I.ok.hd hc) eo io p.isList (by simp;(first|lia|omega)) λh' eb=>⟨rfl,I.turned (t':=s.toks) (λb o hb q=>eb b o hb q) f0 f1 f3 f4 f5⟩
 self:=by
  intro A i s Q E st h
  obtain⟨⟨old,eo⟩,io⟩:=st
  exact wpAny_pyIter_enum eo h
section
variable {X:Cx}{elts:List Expr}{k:Nat}{pos0:Pos}
noncomputable def Ij (K:PySem.W.Frag)(tl:TE):TI:=λσ H R=>tl σ H λx H1=>∃ a,x= .ref a/\(∃xs,SqL K H1 a xs)/\R (Ite K a) H1
theorem KL {l:Expr}{tl:TE}{p pos:Pos}(hg:Gl X "enumerate")(hm:X.mg "enumerate" =none)(hl:PE X l tl)(hs:starEach [l] X.env=[(false,eval l X.env)]:=by rfl):
  PI X (.Tuple elts k pos0) (.Call (.Name "enumerate" p) [l] [] pos) (Ij X.K tl):=by
 intro pins s σ H R I h
 refine wpAny_Call_Name_kw (UP I hg hm boot_enumerate ?_)
 refine PyProof.Rows.callWith_type1 ?_ hs rfl
 rw[hs]
 show wpAny _ _ (spliced ((false,eval l X.env)::backTo pos [])) _ _ s
 refine Calls.spliced_cons (thn (hl pins s σ H _ I h) λv s1 ⟨x,H1,I1,r1,a,ex,⟨xs,hq⟩,q⟩=>?_)
 subst ex
 cases r1
 obtain⟨its,rv,pl,hz⟩:=I1.list hq
 refine Calls.spliced_nil ?_
 have hlt:a<s1.heap.objs.size:=by obtain⟨o,n,ho,_⟩:=pl;exact Heap.lt_size ho
 refine call_enumerate_list pl.isList λh' en io sz kk=>?_
 refine wpAny_pyIter_enum en ?_
 refine⟨_,[s1.heap.objs.size+1,s1.heap.objs.size],_,_,H1,rfl,I1.kept (t':=s1.toks) kk,FE a _ _ (Nat.ne_of_gt (Nat.lt_succ_self _)) (Nat.ne_of_lt (Nat.lt_succ_of_lt hlt)) (Nat.ne_of_lt hlt),⟨⟨_,en⟩,io⟩,λb hb=>?_,q⟩
 have hb':s1.heap.objs.size<=b:=by
  rcases List.mem_cons.mp hb with z |z
  ·rw[z];exact Nat.le_succ _
  ·rw[List.mem_singleton.mp z];exact Nat.le_refl _
 exact I1.fpOk hb' (I1.hok.fresh hb')
end
section
variable {X:Cx}
end
noncomputable def rTL {α:Type}(r:Enc α):Enc (List α):=λK H v as=>∃ a xs,v= .ref a/\SqT K H a xs/\Paired (r K H) xs as
section
variable {α:Type}[DecidableEq α]{r:Enc α}{d:Nat}
theorem Fr {as bs:List α}:((List.range (min as.length bs.length)).all (λj=>decide (as[j]?=bs[j]?))&&as.length==bs.length)=decide (as=bs):=by
 by_cases hl:as.length=bs.length
 ·rw[show min as.length bs.length=as.length by (first|lia|omega),Kx hl]
  simp[hl]
 ·rw[decide_eq_false (λe=>hl (congrArg List.length e))]
  simp[hl]
theorem EL (E:EqOk r d):EqOk (rTL r) (d+1):=by
 have un:∀{X:Cx}{pins:List (Addr×Obj)}{σ:St}{H:Hp}{s:Shared}{x:V}{a b:List α},Inv X pins σ H s->rTL r X.K H x a->rTL r X.K H x b->a=b:=by
  intro X pins σ H s x as bs I h1 h2
  obtain⟨a,xs,rfl,q1,p1⟩:=h1
  obtain⟨b,ys,e,q2,p2⟩:=h2
  cases e
  cases I.tuple_inj q1 q2
  exact Paired.uniq (F:=r X.K H) (λ_ _ _ z z'=>E.uniq I z z') p1 p2
 have rc:∀{X:Cx}{pins:List (Addr×Obj)}{σ:St}{H:Hp}{s:Shared}{x y:V}{v u:Value}{a b:List α}{A:Around},Inv X pins σ H s->X8 x v->X8 y u->rTL r X.K H x a->rTL r X.K H y b->A.units+(d+1)<cLine->SeqAt.RcAt A s v u (decide (a=b)):=by
  intro X pins σ H s x y v u as bs A I rx ry h1 h2 hu
  obtain⟨a,xs,rfl,q1,p1⟩:=h1
  obtain⟨b,ys,rfl,q2,p2⟩:=h2
  cases rx;cases ry
  obtain⟨its,r1,l1,_⟩:=I.tuple q1
  obtain⟨its2,r2,l2,_⟩:=I.tuple q2
  have n1:=r1.length
  have n2:=r2.length
  have m1:=Paired.len p1
  have m2:=Paired.len p2
  have:=SeqAt.RcAt.tuples (A:=A) (e:=λj=>decide (as[j]?=bs[j]?)) l1 l2 (by (first|lia|omega)) (Qf E I hu r1 r2 p1 p2)
  rw[show its.toArray.size=as.length by simp only[List.size_toArray];(first|lia|omega),show its2.toArray.size=bs.length by simp only[List.size_toArray];(first|lia|omega),Fr] at this
  exact this
 refine⟨un,?_,rc,?_,?_⟩
 ·intro X pins σ H s x y v u as bs A I rx ry h1 h2 hu
  obtain⟨a,xs,rfl,q1,p1⟩:=id h1
  obtain⟨b,ys,rfl,q2,p2⟩:=id h2
  have R:=rc (A:=A) I rx ry h1 h2 hu
  cases rx;cases ry
  by_cases e:a=b
  ·subst e
   rw[decide_eq_true (un I h1 h2)]
   exact SeqAt.EqAt.same _
  ·exact SeqAt.EqAt.of_refs e R
 ·intro X pins σ H s x y v u as bs A I rx ry h1 h2 hu
  obtain⟨a,xs,rfl,q1,p1⟩:=h1
  obtain⟨b,ys,rfl,q2,p2⟩:=h2
  cases rx;cases ry
  obtain⟨its,r1,l1,_⟩:=I.tuple q1
  obtain⟨its2,r2,l2,_⟩:=I.tuple q2
  have n1:=r1.length
  have n2:=r2.length
  have m1:=Paired.len p1
  have m2:=Paired.len p2
  have:=SeqAt.RcNeAt.tuples (A:=A) (e:=λj=>decide (as[j]?=bs[j]?)) l1 l2 (by (first|lia|omega)) (Qf E I hu r1 r2 p1 p2)
  rw[show its.toArray.size=as.length by simp only[List.size_toArray];(first|lia|omega),show its2.toArray.size=bs.length by simp only[List.size_toArray];(first|lia|omega),Fr] at this
  exact this
 ·intro K H H' x as e h
  obtain⟨a,xs,rfl,q1,p1⟩:=h
  exact⟨a,xs,rfl,e.seqT q1,Paired.imp2 (λ_ _ z=>E.keep e z) p1⟩
end
section
variable {X:Cx}{o e f:Expr}{td ty tx:TE}{apos cpos:Pos}
end
section
variable {X:Cx}{elt tg iter:Expr}{ifs:List Expr}{scope sc:Scope}{pos:Pos}{n:Nat}{tns:List Str}{caps:List (Nat×Str)}{wi:TI}{g:TG}{tt:TT}{te:TE}
end
variable {X:Cx}
theorem Z3 {l:List Expr}{p:Pos}{es:List Expr}{env:Env}:starEach (.List l p::es) env=(false,eval (.List l p) env)::starEach es env:=rfl
variable {X:Cx}{o e:Expr}{es:List Expr}{to:TE}{t:TA}{name:Str}{apos cpos:Pos}{T id:String}{r:V->List V->Hp->VK->Prop}
end L2
namespace PySem
open PySem.Spec
namespace SeqAt
open MeetsSeq
end SeqAt
end PySem
namespace L2
open PySem PySem.Spec PyProof.Rows
section
variable {X:Cx}
end
section
variable {X:Cx}
end
section
variable {X:Cx}{α:Type}[DecidableEq α]{r:Enc α}{d:Nat}
end
section
variable {X:Cx}
end
section
variable {X:Cx}
theorem QV (K:PySem.W.Frag)(h:X.K=K):OpR X (compareOp .NotIn) (rIn K true):=by subst h;exact Z6
variable {T:String}{name:Str}{id:String}{r:V->List V->Hp->VK->Prop}{o e:Expr}{es:List Expr}{to:TE}{t:TA}{apos cpos:Pos}
end
section
variable {X:Cx}{elt tg iter:Expr}{ifs:List Expr}{scope:Scope}{pos:Pos}{wi:TI}{g:TG}{tt:TT}{te:TE}
theorem JI {sc:Scope}{N0:List Str}{tns:List Str}{caps:List (Nat×Str)}(hc:X.calm=true)(hi:PI X tg iter wi)(hG:Ut tns.length g)
  (hb:∀cl C s H ex E,PG (X.comp (tns++caps.map (·.2)) scope cl C s H ex E) tg g/\PTs (X.comp (tns++caps.map (·.2)) scope cl C s H ex E) ifs tt/\PE (X.comp (tns++caps.map (·.2)) scope cl C s H ex E) elt te)
  (hsc:X.env.scope=sc:=by rfl)(hN0:X.N=N0:=by rfl)(ok:U2 sc scope N0 tns caps=true:=by decide+kernel)
  (hs:∀x,foldedSetIterable iter X.env x=pure x:=by intro _;rfl):
  PE X (.ListComp elt [⟨tg,iter,ifs,0⟩] scope pos) (FD tns.length caps wi g tt te):=EK sc N0 tns caps hc hi hG hb hsc hN0 ok hs
end
section
variable {X:Cx}{tg l:Expr}{tl:TE}{p pos:Pos}{K:PySem.W.Frag}
theorem Yo (h:X.K=K)(hl:PE X l tl):PI X tg l (EU K tl):=by subst h;exact EM hl
theorem Ey (h:X.K=K)(hl:PE X l tl):PI X tg l (La K tl):=by subst h;exact Ig hl
end
section
variable {X:Cx}
theorem Hb (K:PySem.W.Frag)(h:X.K=K):SlR X (Lr K):=by subst h;exact Ia
end
inductive Pay where
 |non |int (i:Int) |tag (t:Str) (xs:List Int)
 deriving DecidableEq
structure Exc where
 cls:Str
 pay:Pay
inductive Rs (α:Type) where
 |bad |err (x:Exc) |ok (a:α)
noncomputable def Rs.bind {α β:Type}:Rs α->(α->Rs β)->Rs β
 | .bad,_=>.bad
 | .err x,_=>.err x
 | .ok a,f=>f a
theorem Rs.ok_bind {α β:Type}(a:α)(f:α->Rs β):(Rs.ok a).bind f=f a:=rfl
noncomputable def chk {α:Type}(c:Prop)[Decidable c](m:Rs α):Rs α:=if c then m else .bad
theorem XG {α:Type}{c:Prop}[Decidable c]{m:Rs α}(h:c):chk c m=m:=if_pos h
noncomputable abbrev XA:=Addr×HO
noncomputable def Ef:HO->Bool
 | .lst _=>true
 | .dK _=>true
 | .dT _=>true
 |_=>false
noncomputable def fl (OO:List (List XA)):List Addr:=OO.flatten.map (·.1)
open Classical in
noncomputable def hid (H:Hp)(OO:List (List XA)):Hp:=λb=>if b∈fl OO then none else H b
structure W (OO:List (List XA))(H:Hp):Prop where
 tr:∀c∈OO.flatten,H c.1=some c.2
 nd:(fl OO).Nodup
 mu:∀c∈OO.flatten,Ef c.2=true
theorem Yf {H:Hp}{OO}{b:Addr}{o:HO}(h:hid H OO b=some o):H b=some o/\b∉fl OO:=by
 unfold hid at h
 split at h
 ·cases h
 ·exact⟨h,by assumption⟩
theorem ZO {H:Hp}{OO}{b:Addr}{o:HO}(h:H b=some o)(n:b∉fl OO):hid H OO b=some o:=by
 unfold hid;rw[if_neg n];exact h
theorem XB {H:Hp}{OO}:Xw (hid H OO) H:=λb o h=>(Yf h).1
theorem Xn {H H':Hp}{OO}(s:Xw H H'):Xw (hid H OO) (hid H' OO):=λb o h=>ZO (s _ _ (Yf h).1) (Yf h).2
theorem QA {H H':Hp}{OO OO'}(s:Xw H H')(h:∀b,b∈fl OO'->b∈fl OO):Xw (hid H OO) (hid H' OO'):=λb o q=>ZO (s _ _ (Yf q).1) λz=>(Yf q).2 (h b z)
theorem Yh {C:List XA}{OO}:fl (C::OO)=C.map (·.1)++fl OO:=by simp[fl]
theorem F9 {OO}:fl ([]::OO)=fl OO:=by simp[fl]
theorem YO {H:Hp}{OO}:hid H ([]::OO)=hid H OO:=by unfold hid;rw[F9]
theorem W.keep {OO}{H H':Hp}(w:W OO H)(s:Xw H H'):W OO H':=⟨λc hc=>s _ _ (w.tr c hc),w.nd,w.mu⟩
theorem W.of {OO OO':List (List XA)}{H:Hp}(w:W OO H)(h:OO'.flatten.Perm OO.flatten):W OO' H:=
 ⟨λc hc=>w.tr c (h.mem_iff.mp hc),(h.map _).nodup_iff.mpr w.nd,λc hc=>w.mu c (h.mem_iff.mp hc)⟩
theorem W.sub {OO OO':List (List XA)}{H:Hp}(w:W OO H)(h:OO'.flatten.Sublist OO.flatten):W OO' H:=
 ⟨λc hc=>w.tr c (h.mem hc),(h.map _).nodup w.nd,λc hc=>w.mu c (h.mem hc)⟩
theorem W.tail {C OO}{H:Hp}(w:W (C::OO) H):W OO H:=w.sub (by simp)
theorem W.nil {OO}{H:Hp}(w:W OO H):W ([]::OO) H:=w.of (by simp)
theorem W.cell {C OO}{H:Hp}(w:W (C::OO) H):∀c∈C,H c.1=some c.2:=λc hc=>w.tr c (by simp[hc])
theorem VC {OO:List (List XA)}{c:XA}(h:c∈OO.flatten):c.1∈fl OO:=List.mem_map.mpr ⟨c,h,rfl⟩
theorem GP {OO:List (List XA)}{b:Addr}(h:b∈fl OO):∃o,(b,o)∈OO.flatten:=by
 obtain⟨⟨a,o⟩,hc,rfl⟩:=List.mem_map.mp h
 exact⟨o,hc⟩
theorem W.fresh {OO}{H:Hp}(w:W OO H){p:Addr}(h:H p=none):p∉fl OO:=λz=>by
 obtain⟨o,ho⟩:=GP z
 have:=w.tr _ ho
 rw[h] at this;cases this
theorem W.new {OO}{H:Hp}(w:W OO H){p:Addr}(h:H p=none){o:HO}(m:Ef o=true):W ([(p,o)]::OO) (upd H p o):=by
 have hf:=w.fresh h
 refine⟨λc hc=>?_,?_,λc hc=>?_⟩
 ·simp only[List.flatten_cons,List.cons_append,List.nil_append,List.mem_cons] at hc
  rcases hc with rfl |hc
  ·exact XL
  ·rw[Xv (λe=>hf (by rw[←e];exact VC hc))];exact w.tr c hc
 ·rw[Yh];simpa using ⟨hf,w.nd⟩
 ·simp only[List.flatten_cons,List.cons_append,List.nil_append,List.mem_cons] at hc
  rcases hc with rfl |hc
  ·exact m
  ·exact w.mu c hc
theorem Q5 {OO}{H:Hp}{p:Addr}(h:H p=none){o:HO}:Xw (hid H OO) (hid (upd H p o) ([(p,o)]::OO)):=λb u q=>by
 obtain⟨q1,q2⟩:=Yf q
 have hb:b≠p:=XF q1 h
 refine ZO (by rw[Xv hb];exact q1) ?_
 rw[Yh];simpa using ⟨hb,q2⟩
theorem JD {OO}{H:Hp}(w:W OO H){p:Addr}(h:H p=none){o:HO}:hid (upd H p o) OO p=some o:=ZO XL (w.fresh h)
class MonoE {α:Type}(r:Enc α):Prop where
 mono:∀{K:PySem.W.Frag}{H H':Hp}{v:V}{a:α},Xw H H'->r K H v a->r K H' v a
noncomputable def LO:HO->Bool
 | .tup _=>true
 | .frz _ _=>true
 |_=>false
noncomputable def Jy (H H':Hp):Prop:=∀ b o,H b=some o->LO o=true->H' b=some o
theorem Xw.i {H H':Hp}(s:Xw H H'):Jy H H':=λb o h _=>s b o h
theorem W.i {OO}{H:Hp}(w:W OO H):Jy H (hid H OO):=λb o h i=>ZO h λz=>by
 obtain⟨u,hu⟩:=GP z
 have h1:=w.tr _ hu
 have h2:=w.mu _ hu
 rw[h] at h1
 have e:o=u:=Option.some.inj h1
 subst e
 revert i h2;cases o<;> simp[LO,Ef]
theorem Jy.trans {H H1 H2:Hp}(a:Jy H H1)(b:Jy H1 H2):Jy H H2:=λc o h i=>b c o (a c o h i) i
class FlatE {α:Type}(r:Enc α):Prop where
 flat:∀{K:PySem.W.Frag}{H H':Hp}{v:V}{a:α},Jy H H'->r K H v a->r K H' v a
instance {α:Type}{r:Enc α}[f:FlatE r]:MonoE r:=⟨λs h=>f.flat s.i h⟩
theorem Jy.seqT {K:PySem.W.Frag}{H H':Hp}{a:Addr}{xs:List V}(e:Jy H H')(h:SqT K H a xs):SqT K H' a xs:=by
 rcases h with(h | ⟨o,h⟩) |h
 ·exact .inl (.inl (e _ _ h rfl))
 ·exact .inl (.inr ⟨o,e _ _ h rfl⟩)
 ·exact .inr h
noncomputable def Xt:Enc Bool:=λ_ _ v b=>v= .bl b
noncomputable def Yu:Enc Str:=λ_ _ v x=>v= .str x
noncomputable def Y0 {α:Type}(r:Enc α):Enc (Option α):=λK H v a=>match a with
 |none=>v= .non
 |some a=>v≠ .non/\r K H v a
noncomputable def rV {α:Type}(r:Enc α):Enc (List α):=λK H v as=>∃ a xs,v= .ref a/\H a=some (.lst xs)/\Paired (r K H) xs as
noncomputable def rPL {α:Type}(r:Enc α):Enc (List α):=λK H v as=>∃ a xs,v= .ref a/\H a=some (.tup xs)/\Paired (r K H) xs as
noncomputable def rP2 {α β:Type}(r:Enc α)(q:Enc β):Enc (α×β):=λK H v p=>∃ a x y,v= .ref a/\H a=some (.tup [x,y])/\r K H x p.1/\q K H y p.2
noncomputable def rP3 {α β γ:Type}(r:Enc α)(q:Enc β)(t:Enc γ):Enc (α×β×γ):=λK H v p=>∃ a x y z,v= .ref a/\H a=some (.tup [x,y,z])/\r K H x p.1/\q K H y p.2.1/\t K H z p.2.2
instance {α:Type}{r:Enc α}[m:MonoE r]:MonoE (rV r):=⟨λs r9=>by obtain⟨a,xs,e,q,p⟩:=r9;exact⟨a,xs,e,s _ _ q,Paired.imp2 (λ_ _ z=>m.mono s z) p⟩⟩
instance {α:Type}{r:Enc α}[m:MonoE r]:MonoE (rPL r):=⟨λs r9=>by obtain⟨a,xs,e,q,p⟩:=r9;exact⟨a,xs,e,s _ _ q,Paired.imp2 (λ_ _ z=>m.mono s z) p⟩⟩
instance {α:Type}{r:Enc α}[m:FlatE r]:FlatE (rPL r):=⟨λs r9=>by obtain⟨a,xs,e,q,p⟩:=r9;exact⟨a,xs,e,s _ _ q rfl,Paired.imp2 (λ_ _ z=>m.flat s z) p⟩⟩
instance {α β:Type}{r:Enc α}{q:Enc β}[m:MonoE r][n:MonoE q]:MonoE (rP2 r q):=⟨λs r9=>by obtain⟨a,x,y,e,h,p1,p2⟩:=r9;exact⟨a,x,y,e,s _ _ h,m.mono s p1,n.mono s p2⟩⟩
instance {α β:Type}{r:Enc α}{q:Enc β}[m:FlatE r][n:FlatE q]:FlatE (rP2 r q):=⟨λs r9=>by obtain⟨a,x,y,e,h,p1,p2⟩:=r9;exact⟨a,x,y,e,s _ _ h rfl,m.flat s p1,n.flat s p2⟩⟩
instance {α β γ:Type}{r:Enc α}{q:Enc β}{t:Enc γ}[m:MonoE r][n:MonoE q][k:MonoE t]:MonoE (rP3 r q t):=⟨λs r9=>by obtain⟨a,x,y,z,e,h,p1,p2,p3⟩:=r9;exact⟨a,x,y,z,e,s _ _ h,m.mono s p1,n.mono s p2,k.mono s p3⟩⟩
instance {α β γ:Type}{r:Enc α}{q:Enc β}{t:Enc γ}[m:FlatE r][n:FlatE q][k:FlatE t]:FlatE (rP3 r q t):=⟨λs r9=>by obtain⟨a,x,y,z,e,h,p1,p2,p3⟩:=r9;exact⟨a,x,y,z,e,s _ _ h rfl,m.flat s p1,n.flat s p2,k.flat s p3⟩⟩
instance:FlatE Xa:=⟨λ_ h=>h⟩
instance:FlatE Xt:=⟨λ_ h=>h⟩
instance:FlatE Yu:=⟨λ_ h=>h⟩
instance {α:Type}{r:Enc α}[m:MonoE r]:MonoE (rL r):=⟨λs r9=>by obtain⟨a,xs,e,q,p⟩:=r9;exact⟨a,xs,e,s.seq q,Paired.imp2 (λ_ _ z=>m.mono s z) p⟩⟩
instance {α:Type}{r:Enc α}[m:MonoE r]:MonoE (Y0 r):=⟨fun {K H H' v a} s h=>by cases a with
 |none=>exact h
 |some a=>exact⟨h.1,m.mono s h.2⟩⟩
instance {α:Type}{r:Enc α}[m:FlatE r]:FlatE (Y0 r):=⟨fun {K H H' v a} s h=>by cases a with
 |none=>exact h
 |some a=>exact⟨h.1,m.flat s h.2⟩⟩
noncomputable abbrev OE (α:Type):=PySem.W.Frag->Hp->V->α->List XA->Prop
inductive P3 {α β γ:Type}(F:α->β->γ->Prop):List α->List β->List γ->Prop where
 |nil:P3 F [] [] []
 |cons {a b c l m n}:F a b c->P3 F l m n->P3 F (a::l) (b::m) (c::n)
noncomputable def oF {α:Type}(r:Enc α):OE α:=λK h v a C=>C=[]/\r K h v a
noncomputable def oL {α:Type}(o:OE α):OE (List α):=λK h v as C=>∃ p xs Cs,v= .ref p/\P3 (o K h) xs as Cs/\C=(p, .lst xs)::Cs.flatten
noncomputable def oT2 {α β:Type}(o:OE α)(q:OE β):OE (α×β):=λK h v a C=>∃ p x y C1 C2,v= .ref p/\h p=some (.tup [x,y])/\o K h x a.1 C1/\q K h y a.2 C2/\C=C1++C2
noncomputable def Le {α:Type}(o:OE α):OE (Option α):=λK h v a C=>match a with
 |none=>v= .non/\C=[]
 |some a=>v≠ .non/\o K h v a C
section
variable {α β γ δ:Type}
theorem P3.imp {F G:α->β->γ->Prop}(h:∀a b c,F a b c->G a b c):∀{l m n},P3 F l m n->P3 G l m n:=λp=>by
 induction p with
 |nil=>exact .nil
 |cons r _ ih=>exact .cons (h _ _ _ r) ih
theorem P3.app {F:α->β->γ->Prop}:∀{l m n l' m' n'},P3 F l m n->P3 F l' m' n'->P3 F (l++l') (m++m') (n++n'):=λp h=>by
 induction p with
 |nil=>exact h
 |cons r _ ih=>exact .cons r ih
theorem P3.snoc {F:α->β->γ->Prop}{l m n a b c}(h:P3 F l m n)(r:F a b c):P3 F (l++[a]) (m++[b]) (n++[c]):=h.app (.cons r .nil)
theorem P3.len {F:α->β->γ->Prop}:∀{l m n},P3 F l m n->l.length=m.length/\n.length=m.length:=λp=>by
 induction p with
 |nil=>exact⟨rfl,rfl⟩
 |cons _ _ ih=>exact⟨congrArg Nat.succ ih.1,congrArg Nat.succ ih.2⟩
theorem P3.pair {F:α->β->γ->Prop}{G:α->β->Prop}:∀{l m n},P3 F l m n->(∀a b c,c∈n->F a b c->G a b)->Paired G l m:=λp h=>by
 induction p with
 |nil=>exact .nil
 |cons r _ ih=>exact .cons (h _ _ _ List.mem_cons_self r) (ih λa b c hc=>h a b c (List.mem_cons_of_mem _ hc))
theorem P3.get {F:α->β->γ->Prop}:∀{l m n}{i:Nat}{b:β},P3 F l m n->m[i]?=some b->∃a c,l[i]?=some a/\n[i]?=some c/\F a b c
 |_,_,_,_,_, .nil,e=>by simp at e
 |_,_,_,0,_, .cons r _,e=>by simp at e;subst e;exact⟨_,_,rfl,rfl,r⟩
 |_,_,_,i+1,b, .cons _ t,e=>by
  obtain⟨a,c,h1,h2,h3⟩:=P3.get (i:=i) (b:=b) t (by simpa using e)
  exact⟨a,c,by simpa using h1,by simpa using h2,h3⟩
theorem P3.set {F:α->β->γ->Prop}{a:α}{b:β}{c:γ}(r:F a b c):∀{l m n} (i:Nat),P3 F l m n->P3 F (l.set i a) (m.set i b) (n.set i c)
 |_,_,_,_, .nil=>.nil
 |_,_,_,0, .cons _ t=>.cons r t
 |_,_,_,i+1, .cons q t=>.cons q (P3.set r i t)
theorem P3.flat {F:α->β->Prop}:∀{l:List α}{m:List β}{n:List (List XA)},P3 (λa b c=>c=[]/\F a b) l m n->Paired F l m/\n.flatten=[]:=λp=>by
 induction p with
 |nil=>exact⟨.nil,rfl⟩
 |cons r _ ih=>exact⟨.cons r.2 ih.1,by rw[List.flatten_cons,r.1,ih.2];rfl⟩
theorem P3.of {F:α->β->Prop}:∀{l:List α}{m:List β},Paired F l m->P3 (λa b (c:List XA)=>c=[]/\F a b) l m (List.replicate m.length [])
 |_,_, .nil=>.nil
 |_,_, .cons r t=>.cons ⟨rfl,r⟩ (P3.of t)
theorem Yk:∀n:Nat,(List.replicate n ([]:List XA)).flatten=[]
 |0=>rfl
 |n+1=>by simp[List.replicate_succ,Yk n]
end
class MonoO {α:Type}(o:OE α):Prop where
 mono:∀{K:PySem.W.Frag}{H H':Hp}{v:V}{a:α}{C:List XA},Xw H H'->o K H v a C->o K H' v a C
class FlatO {α:Type}(o:OE α):Prop where
 flat:∀{K:PySem.W.Frag}{H H':Hp}{v:V}{a:α}{C:List XA},Jy H H'->o K H v a C->o K H' v a C
class FrzC {α:Type}(o:OE α)(r:outParam (Enc α)):Prop where
 frz:∀{K:PySem.W.Frag}{H H':Hp}{v:V}{a:α}{C:List XA},o K H v a C->Xw H H'->(∀c∈C,H' c.1=some c.2)->r K H' v a
instance {α:Type}{r:Enc α}[m:MonoE r]:MonoO (oF r):=⟨λs h=>⟨h.1,m.mono s h.2⟩⟩
instance {α:Type}{r:Enc α}[m:FlatE r]:FlatO (oF r):=⟨λs h=>⟨h.1,m.flat s h.2⟩⟩
instance {α:Type}{r:Enc α}[m:MonoE r]:FrzC (oF r) r:=⟨λh s _=>m.mono s h.2⟩
instance {α:Type}{o:OE α}[m:MonoO o]:MonoO (oL o):=⟨λs r9=>by obtain⟨p,xs,Cs,e,q,c⟩:=r9;exact⟨p,xs,Cs,e,q.imp λ_ _ _ z=>m.mono s z,c⟩⟩
instance {α:Type}{o:OE α}[m:FlatO o]:FlatO (oL o):=⟨λs r9=>by obtain⟨p,xs,Cs,e,q,c⟩:=r9;exact⟨p,xs,Cs,e,q.imp λ_ _ _ z=>m.flat s z,c⟩⟩
instance {α:Type}{o:OE α}{r:Enc α}[m:FrzC o r]:FrzC (oL o) (rV r):=⟨λ⟨p,xs,Cs,e,q,c⟩ s hc=>by
 subst c
 exact⟨p,xs,e,hc _ List.mem_cons_self,q.pair λa b c hm z=>m.frz z s λx hx=>hc x (List.mem_cons_of_mem _ (List.mem_flatten.mpr ⟨c,hm,hx⟩))⟩⟩
instance {α β:Type}{o:OE α}{q:OE β}[m:MonoO o][n:MonoO q]:MonoO (oT2 o q):=⟨λs r9=>by obtain⟨p,x,y,C1,C2,e,h,h1,h2,c⟩:=r9;exact⟨p,x,y,C1,C2,e,s _ _ h,m.mono s h1,n.mono s h2,c⟩⟩
instance {α β:Type}{o:OE α}{q:OE β}[m:FlatO o][n:FlatO q]:FlatO (oT2 o q):=⟨λs r9=>by obtain⟨p,x,y,C1,C2,e,h,h1,h2,c⟩:=r9;exact⟨p,x,y,C1,C2,e,s _ _ h rfl,m.flat s h1,n.flat s h2,c⟩⟩
instance {α β:Type}{o:OE α}{q:OE β}{r:Enc α}{t:Enc β}[m:FrzC o r][n:FrzC q t]:FrzC (oT2 o q) (rP2 r t):=⟨λ⟨p,x,y,C1,C2,e,h,h1,h2,c⟩ s hc=>by
 subst c
 exact⟨p,x,y,e,s _ _ h,m.frz h1 s λc hm=>hc c (by simp[hm]),n.frz h2 s λc hm=>hc c (by simp[hm])⟩⟩
instance {α:Type}{o:OE α}[m:MonoO o]:MonoO (Le o):=⟨fun {K H H' v a C} s h=>by cases a with
 |none=>exact h
 |some a=>exact⟨h.1,m.mono s h.2⟩⟩
instance {α:Type}{o:OE α}[m:FlatO o]:FlatO (Le o):=⟨fun {K H H' v a C} s h=>by cases a with
 |none=>exact h
 |some a=>exact⟨h.1,m.flat s h.2⟩⟩
instance {α:Type}{o:OE α}{r:Enc α}[m:FrzC o r]:FrzC (Le o) (Y0 r):=⟨fun {K H H' v a C} h s hc=>by cases a with
 |none=>exact h.1
 |some a=>exact⟨h.1,m.frz h.2 s hc⟩⟩
structure SC where
 p:Hp->Prop
 mono:∀h h',Xw h h'->p h->p h'
noncomputable def SC.nil:SC:=⟨λ_=>True,λ_ _ _ _=>True.intro⟩
noncomputable def SC.and (S T:SC):SC:=⟨λh=>S.p h/\T.p h,λ_ _ s q=>⟨S.mono _ _ s q.1,T.mono _ _ s q.2⟩⟩
noncomputable def SC.one {α:Type}(K:PySem.W.Frag)(r:Enc α)[m:MonoE r](v:V)(a:α):SC:=⟨λh=>r K h v a,λ_ _ s q=>m.mono s q⟩
noncomputable def SC.oneO {α:Type}(K:PySem.W.Frag)(o:OE α)[m:MonoO o](v:V)(a:α)(C:List XA):SC:=⟨λh=>o K h v a C,λ_ _ s q=>m.mono s q⟩
noncomputable abbrev SC.add {α:Type}(S:SC)(K:PySem.W.Frag)(r:Enc α)[m:MonoE r](v:V)(a:α):SC:=S.and (SC.one K r v a)
noncomputable abbrev SC.addO {α:Type}(S:SC)(K:PySem.W.Frag)(o:OE α)[m:MonoO o](v:V)(a:α)(C:List XA):SC:=S.and (SC.oneO K o v a C)
theorem SC.l {S T:SC}{h:Hp}(q:(S.and T).p h):S.p h:=q.1
theorem SC.r {S T:SC}{h:Hp}(q:(S.and T).p h):T.p h:=q.2
theorem SC.i {S T:SC}{h:Hp}(q:S.p h)(p:T.p h):(S.and T).p h:=⟨q,p⟩
theorem SC.t {h:Hp}:SC.nil.p h:=True.intro
theorem SC.p.l {S T:SC}{h:Hp}(q:(S.and T).p h):S.p h:=q.1
theorem SC.p.r {S T:SC}{h:Hp}(q:(S.and T).p h):T.p h:=q.2
noncomputable def PZ {β:Type}(Er:Exc->Hp->Prop)(F:β->Hp->Prop)(H:Hp)(m:Rs β):Prop:=
 match m with
 | .bad=>False
 | .err x=>∀ H',Xw H H'->Er x H'
 | .ok b=>F b H
section
variable (K:PySem.W.Frag)(Er:Exc->Hp->Prop)(S:SC)(OO OO':List (List XA))(σ:St)
noncomputable def FB {α:Type}(r:Enc α)(Q:VK)(a:α)(H:Hp):Prop:=∀ v H',Xw H H'->r K H' v a->Q v H'
noncomputable def FO {α:Type}(o:OE α)(Q:VK)(a:α)(H:Hp):Prop:=∀ v C H',Xw H H'->W (C::OO') H'->Xw (hid H OO) (hid H' (C::OO'))->o K (hid H' (C::OO')) v a C->Q v H'
noncomputable def FT (Q:Bool->Hp->Prop)(b:Bool)(H:Hp):Prop:=∀ H',Xw H H'->Q b H'
noncomputable def EvB {α:Type}(te:TE)(r:Enc α)(m:Rs α):Prop:=∀ H Q,W OO H->S.p (hid H OO)->PZ Er (FB K r Q) H m->te σ H Q
noncomputable def Ev {α:Type}(te:TE)(o:OE α)(m:Rs α):Prop:=∀ H Q,W OO H->S.p (hid H OO)->PZ Er (FO K OO OO' o Q) H m->te σ H Q
noncomputable def EvT (tt:TT)(m:Rs Bool):Prop:=∀ H Q,W OO H->S.p (hid H OO)->PZ Er (FT Q) H m->tt σ H Q
end
section
variable {K:PySem.W.Frag}{Er:Exc->Hp->Prop}{S:SC}{OO OO' OO2:List (List XA)}{σ:St}{α β γ:Type}
theorem FB.tr {r:Enc α}{Q:VK}:∀a H H',Xw H H'->FB K r Q a H->FB K r Q a H':=λa H H' s h v H2 s2 q=>h v H2 (s.trans s2) q
theorem FO.tr {o:OE α}{Q:VK}:∀a H H',Xw H H'->FO K OO OO' o Q a H->FO K OO OO' o Q a H':=λa H H' s h v C H2 s2 w m q=>h v C H2 (s.trans s2) w ((Xn s).trans m) q
theorem FT.tr {Q:Bool->Hp->Prop}:∀b H H',Xw H H'->FT Q b H->FT Q b H':=λa H H' s h H2 s2=>h H2 (s.trans s2)
theorem EvB.run {te:TE}{r:Enc α}{m:Rs α}(he:EvB K Er S OO σ te r m){H:Hp}{Q:VK}(w:W OO H)(s:S.p (hid H OO)){f:α->Rs β}{F:β->Hp->Prop}(hF:∀b H H',Xw H H'->F b H->F b H')(P:PZ Er F H (m.bind f))
  (hk:∀a v H',Xw H H'->W OO H'->S.p (hid H' OO)->r K H' v a->PZ Er F H' (f a)->Q v H'):te σ H Q:=by
 refine he H Q w s ?_
 cases m with
 |bad=>exact P
 |err x=>exact P
 |ok a=>
  intro v H' s' hr
  refine hk a v H' s' (w.keep s') (S.mono _ _ (Xn s') s) hr ?_
  have P':PZ Er F H (f a):=P
  revert P'
  cases f a with
  |bad=>exact λz=>z
  |err x=>exact λz H2 s2=>z H2 (s'.trans s2)
  |ok b=>exact λz=>hF b H H' s' z
theorem Ev.run {te:TE}{o:OE α}{m:Rs α}(he:Ev K Er S OO OO' σ te o m){H:Hp}{Q:VK}(w:W OO H)(s:S.p (hid H OO)){f:α->Rs β}{F:β->Hp->Prop}(hF:∀b H H',Xw H H'->F b H->F b H')(P:PZ Er F H (m.bind f))
  (hk:∀a v C H',Xw H H'->W (C::OO') H'->Xw (hid H OO) (hid H' (C::OO'))->S.p (hid H' (C::OO'))->o K (hid H' (C::OO')) v a C->PZ Er F H' (f a)->Q v H'):te σ H Q:=by
 refine he H Q w s ?_
 cases m with
 |bad=>exact P
 |err x=>exact P
 |ok a=>
  intro v C H' s' w' m' ho
  refine hk a v C H' s' w' m' (S.mono _ _ m' s) ho ?_
  have P':PZ Er F H (f a):=P
  revert P'
  cases f a with
  |bad=>exact λz=>z
  |err x=>exact λz H2 s2=>z H2 (s'.trans s2)
  |ok b=>exact λz=>hF b H H' s' z
theorem EvT.run {tt:TT}{m:Rs Bool}(he:EvT Er S OO σ tt m){H:Hp}{Q:Bool->Hp->Prop}(w:W OO H)(s:S.p (hid H OO)){f:Bool->Rs β}{F:β->Hp->Prop}(hF:∀b H H',Xw H H'->F b H->F b H')(P:PZ Er F H (m.bind f))
  (hk:∀b H',Xw H H'->W OO H'->S.p (hid H' OO)->PZ Er F H' (f b)->Q b H'):tt σ H Q:=by
 refine he H Q w s ?_
 cases m with
 |bad=>exact P
 |err x=>exact P
 |ok a=>
  intro H' s'
  refine hk a H' s' (w.keep s') (S.mono _ _ (Xn s') s) ?_
  have P':PZ Er F H (f a):=P
  revert P'
  cases f a with
  |bad=>exact λz=>z
  |err x=>exact λz H2 s2=>z H2 (s'.trans s2)
  |ok b=>exact λz=>hF b H H' s' z
theorem Ev.toB {te:TE}{o:OE α}{r:Enc α}[z:FrzC o r]{m:Rs α}(he:Ev K Er S OO OO σ te o m):EvB K Er S OO σ te r m:=λH Q w s P=>by
 refine he H Q w s ?_
 cases m with
 |bad=>exact P
 |err x=>exact P
 |ok a=>exact λv C H' s' w' m' ho=>P v H' s' (z.frz ho XB w'.cell)
theorem Ev.frz {te:TE}{o:OE α}{r:Enc α}[z:FrzC o r]{m:Rs α}(he:Ev K Er S OO OO' σ te o m):Ev K Er S OO OO' σ te (oF r) m:=λH Q w s P=>by
 refine he H Q w s ?_
 cases m with
 |bad=>exact P
 |err x=>exact P
 |ok a=>
  intro v C H' s' w' m' ho
  have hs:Xw (hid H' (C::OO')) (hid H' ([]::OO')):=QA (Xw.refl _) λb hb=>by rw[F9] at hb;rw[Yh];simp[hb]
  refine P v [] H' s' w'.tail.nil (m'.trans hs) ⟨rfl,z.frz ho hs λc hc=>ZO (w'.cell c hc) ?_⟩
  rw[F9]
  have:=w'.nd
  rw[Yh] at this
  intro hb
  exact(List.nodup_append.mp this).2.2 c.1 (List.mem_map.mpr ⟨c,hc,rfl⟩) c.1 hb rfl
theorem EvB.flat {te:TE}{r:Enc α}[z:FlatE r]{m:Rs α}(he:EvB K Er S OO σ te r m):Ev K Er S OO OO σ te (oF r) m:=λH Q w s P=>by
 refine he H Q w s ?_
 cases m with
 |bad=>exact P
 |err x=>exact P
 |ok a=>
  intro v H' s' hr
  have w':=w.keep s'
  exact P v [] H' s' w'.nil (by rw[YO];exact Xn s') ⟨rfl,by rw[YO];exact z.flat w'.i hr⟩
theorem Xc {r:Enc α}[z:MonoE r]{v:V}{a:α}(i:Nat)(hσ:σ[i]?=some (some v))(h:∀x,S.p x->r K x v a):EvB K Er S OO σ (QD i) r (.ok a):=λH Q w s P=>
 ⟨v,hσ,P v H (Xw.refl _) (z.mono XB (h _ s))⟩
theorem XR {o:OE α}{r:Enc α}[z:FrzC o r]{v:V}{a:α}{C:List XA}(i k:Nat)(hσ:σ[i]?=some (some v))(hk:OO[k]?=some C)(h:∀x,S.p x->o K x v a C):EvB K Er S OO σ (QD i) r (.ok a):=λH Q w s P=>
 ⟨v,hσ,P v H (Xw.refl _) (z.frz (h _ s) XB λc hc=>w.tr c (List.mem_flatten.mpr ⟨C,List.mem_of_getElem? hk,hc⟩))⟩
theorem X0:∀{OO:List (List XA)}{k:Nat}{C:List XA},OO[k]?=some C->(C::OO.set k []).flatten.Perm OO.flatten
 | [],_,_,h=>by simp at h
 |D::OO,0,C,h=>by simp at h;subst h;simp
 |D::OO,k+1,C,h=>by
  have:=X0 (OO:=OO) (k:=k) (C:=C) (by simpa using h)
  simp only[List.set_cons_succ,List.flatten_cons] at this⊢
  refine List.Perm.trans ?_ (this.append_left D)
  rw[←List.append_assoc, ←List.append_assoc]
  exact List.perm_append_comm.append_right _
theorem JY {OO OO':List (List XA)}(h:OO'.flatten.Perm OO.flatten)(b:Addr):b∈fl OO'↔b∈fl OO:=(h.map (·.1)).mem_iff
theorem Yd {H:Hp}{OO OO':List (List XA)}(h:OO'.flatten.Perm OO.flatten):hid H OO'=hid H OO:=by
 funext b;unfold hid
 by_cases hb:b∈fl OO
 ·rw[if_pos hb,if_pos ((JY h b).mpr hb)]
 ·rw[if_neg hb,if_neg λz=>hb ((JY h b).mp z)]
theorem YN {o:OE α}{v:V}{a:α}{C:List XA}(i k:Nat)(hσ:σ[i]?=some (some v))(hk:OO[k]?=some C)(h:∀x,S.p x->o K x v a C):Ev K Er S OO (OO.set k []) σ (QD i) o (.ok a):=λH Q w s P=>by
 have hp:=X0 hk
 exact⟨v,hσ,P v C H (Xw.refl _) (w.of hp) (by rw[Yd hp];exact Xw.refl _) (by rw[Yd hp];exact h _ s)⟩
theorem Xe (n:Int):EvB K Er S OO σ (tC (.int n)) Xa (.ok n):=λH Q w s P=>P _ H (Xw.refl _) rfl
theorem YE (b:Bool):EvB K Er S OO σ (tC (.bl b)) Xt (.ok b):=λH Q w s P=>P _ H (Xw.refl _) rfl
theorem ZG (x:Str):EvB K Er S OO σ (tC (.str x)) Yu (.ok x):=λH Q w s P=>P _ H (Xw.refl _) rfl
theorem JO {ta tb:TE}{g:Int->Int->V}{r:Enc β}{f:Int->Int->β}{ma mb:Rs Int}(hg:∀K H i j,r K H (g i j) (f i j))(ha:EvB K Er S OO σ ta Xa ma)(hb:EvB K Er S OO σ tb Xa mb):
  EvB K Er S OO σ (tOp (rI0 g) ta tb) r (ma.bind λa=>mb.bind λb=>.ok (f a b)):=λH Q w s P=>
 ha.run w s FB.tr P λa x H1 s1 w1 q1 r1 P1=>hb.run w1 q1 FB.tr P1 λb y H2 s2 w2 q2 r2 P2=>⟨a,b,r1,r2,P2 _ H2 (Xw.refl _) (hg K H2 a b)⟩
theorem VX {ta tb:TE}{Cc:Int->Int->Prop}{g:Int->Int->V}{r:Enc β}{f:Int->Int->Rs β}{ma mb:Rs Int}(hg:∀K H i j c,f i j= .ok c->Cc i j/\r K H (g i j) c)(he:∀i j x,f i j≠ .err x)
  (ha:EvB K Er S OO σ ta Xa ma)(hb:EvB K Er S OO σ tb Xa mb):
  EvB K Er S OO σ (tOp (rI Cc g) ta tb) r (ma.bind λa=>mb.bind λb=>f a b):=λH Q w s P=>
 ha.run w s FB.tr P λa x H1 s1 w1 q1 r1 P1=>hb.run w1 q1 FB.tr P1 λb y H2 s2 w2 q2 r2 P2=>by
  cases e:f a b with
  |bad=>rw[e] at P2;exact P2.elim
  |err x=>exact absurd e (he a b x)
  |ok c=>
   rw[e] at P2
   obtain⟨h1,h2⟩:=hg K H2 a b c e
   exact⟨a,b,r1,r2,h1,P2 _ H2 (Xw.refl _) h2⟩
noncomputable def QE (a b:Int):Rs Int:=chk ((-(2^64)<a/\a<2^64)∨(-(2^64)<b/\b<2^64)) (.ok (a*b))
noncomputable def Qd (a b:Int):Rs Int:=chk (0<b) (.ok (a % b))
noncomputable def Ii (a b:Int):Rs Int:=chk (0<b/\b.natAbs.log2<9000) (.ok (a/b))
noncomputable def DC (a b:Int):Rs Int:=chk (0<=b/\b<=1000000/\a.natAbs<2^64) (.ok (a^b.toNat))
theorem Zx {c:Prop}[Decidable c]{m:Rs α}{a:α}(h:chk c m= .ok a):c/\m= .ok a:=by
 unfold chk at h;split at h
 ·exact⟨by assumption,h⟩
 ·cases h
theorem Ql {c:Prop}[Decidable c]{a:α}{x:Exc}:chk c (Rs.ok a)≠ .err x:=by
 unfold chk;split<;> exact λz=>nomatch z
theorem X3 {ta tb:TE}{ma mb:Rs Int}(ha:EvB K Er S OO σ ta Xa ma)(hb:EvB K Er S OO σ tb Xa mb):EvB K Er S OO σ (tOp (rI IL λi j=>.int (i*j)) ta tb) Xa (ma.bind λa=>mb.bind λb=>QE a b):=
 VX (λK H i j c h=>by obtain⟨h1,h2⟩:=Zx h;cases h2;exact⟨h1,rfl⟩) (λi j x=>Ql) ha hb
theorem XV {ta tb:TE}{ma mb:Rs Int}(ha:EvB K Er S OO σ ta Xa ma)(hb:EvB K Er S OO σ tb Xa mb):EvB K Er S OO σ (tOp (rI (λ_ j=>0<j) λi j=>.int (i % j)) ta tb) Xa (ma.bind λa=>mb.bind λb=>Qd a b):=
 VX (λK H i j c h=>by obtain⟨h1,h2⟩:=Zx h;cases h2;exact⟨h1,rfl⟩) (λi j x=>Ql) ha hb
theorem Dc {ta tb:TE}{ma mb:Rs Int}(ha:EvB K Er S OO σ ta Xa ma)(hb:EvB K Er S OO σ tb Xa mb):EvB K Er S OO σ (tOp (rI (λ_ j=>0<j/\j.natAbs.log2<9000) λi j=>.int (i/j)) ta tb) Xa (ma.bind λa=>mb.bind λb=>Ii a b):=
 VX (λK H i j c h=>by obtain⟨h1,h2⟩:=Zx h;cases h2;exact⟨h1,rfl⟩) (λi j x=>Ql) ha hb
theorem Jl {ta tb:TE}{ma mb:Rs Int}(ha:EvB K Er S OO σ ta Xa ma)(hb:EvB K Er S OO σ tb Xa mb):EvB K Er S OO σ (tOp (rI LI λi j=>.int (i^j.toNat)) ta tb) Xa (ma.bind λa=>mb.bind λb=>DC a b):=
 VX (λK H i j c h=>by obtain⟨h1,h2⟩:=Zx h;cases h2;exact⟨h1,rfl⟩) (λi j x=>Ql) ha hb
theorem XJ {ta tb:TE}{ma mb:Rs Int}(ha:EvB K Er S OO σ ta Xa ma)(hb:EvB K Er S OO σ tb Xa mb):EvB K Er S OO σ (tOp (rI0 λi j=>.int (i+j)) ta tb) Xa (ma.bind λa=>mb.bind λb=>.ok (a+b)):=JO (λ_ _ _ _=>rfl) ha hb
theorem ZY {ta tb:TE}{ma mb:Rs Int}(ha:EvB K Er S OO σ ta Xa ma)(hb:EvB K Er S OO σ tb Xa mb):EvB K Er S OO σ (tOp (rI0 λi j=>.int (i-j)) ta tb) Xa (ma.bind λa=>mb.bind λb=>.ok (a-b)):=JO (λ_ _ _ _=>rfl) ha hb
theorem VG {ta tb:TE}{ma mb:Rs Int}(ha:EvB K Er S OO σ ta Xa ma)(hb:EvB K Er S OO σ tb Xa mb):EvB K Er S OO σ (tOp (rI0 λi j=>.bl (decide (i<j))) ta tb) Xt (ma.bind λa=>mb.bind λb=>.ok (decide (a<b))):=JO (λ_ _ _ _=>rfl) ha hb
theorem BR {ta tb:TE}{ma mb:Rs Int}(ha:EvB K Er S OO σ ta Xa ma)(hb:EvB K Er S OO σ tb Xa mb):EvB K Er S OO σ (tOp (rI0 λi j=>.bl (decide (i<=j))) ta tb) Xt (ma.bind λa=>mb.bind λb=>.ok (decide (a<=b))):=JO (λ_ _ _ _=>rfl) ha hb
theorem Jq {ta tb:TE}{ma mb:Rs Int}(ha:EvB K Er S OO σ ta Xa ma)(hb:EvB K Er S OO σ tb Xa mb):EvB K Er S OO σ (tOp (rI0 λi j=>.bl (decide (j<i))) ta tb) Xt (ma.bind λa=>mb.bind λb=>.ok (decide (b<a))):=JO (λ_ _ _ _=>rfl) ha hb
theorem ZK {ta:TE}{ma:Rs Int}(ha:EvB K Er S OO σ ta Xa ma):EvB K Er S OO σ (tUn (rU λi=>.int (-i)) ta) Xa (ma.bind λa=>.ok (-a)):=λH Q w s P=>
 ha.run w s FB.tr P λa x H1 s1 w1 q1 r1 P1=>⟨a,r1,P1 _ H1 (Xw.refl _) rfl⟩
class Scal {α:Type}[DecidableEq α](r:Enc α):Prop where
 to:∀{K:PySem.W.Frag}{H H':Hp}{x y:V}{a b:α},r K H x a->r K H' y b->IX x y=true/\decide (x=y)=decide (a=b)
instance:Scal Xa:=⟨fun {K H H' x y a b} h1 h2=>by cases(show x= .int a from h1);cases(show y= .int b from h2);exact⟨rfl,by simp⟩⟩
instance:Scal Xt:=⟨fun {K H H' x y a b} h1 h2=>by cases(show x= .bl a from h1);cases(show y= .bl b from h2);exact⟨rfl,by simp⟩⟩
instance:Scal Yu:=⟨fun {K H H' x y a b} h1 h2=>by cases(show x= .str a from h1);cases(show y= .str b from h2);exact⟨rfl,by simp⟩⟩
theorem YS [DecidableEq α]{r:Enc α}[z:Scal r][MonoE r]{ta tb:TE}{ma mb:Rs α}(ha:EvB K Er S OO σ ta r ma)(hb:EvB K Er S OO σ tb r mb):EvB K Er S OO σ (tOp rEq ta tb) Xt (ma.bind λa=>mb.bind λb=>.ok (decide (a=b))):=λH Q w s P=>
 ha.run w s FB.tr P λa x H1 s1 w1 q1 r1 P1=>hb.run w1 q1 FB.tr P1 λb y H2 s2 w2 q2 r2 P2=>by
  obtain⟨h1,h2⟩:=z.to r1 r2
  exact⟨h1,P2 _ H2 (Xw.refl _) (by rw[h2];rfl)⟩
theorem Gy [DecidableEq α]{r:Enc α}[z:Scal r][MonoE r]{ta tb:TE}{ma mb:Rs α}(ha:EvB K Er S OO σ ta r ma)(hb:EvB K Er S OO σ tb r mb):EvB K Er S OO σ (tOp rNe ta tb) Xt (ma.bind λa=>mb.bind λb=>.ok (!decide (a=b))):=λH Q w s P=>
 ha.run w s FB.tr P λa x H1 s1 w1 q1 r1 P1=>hb.run w1 q1 FB.tr P1 λb y H2 s2 w2 q2 r2 P2=>by
  obtain⟨h1,h2⟩:=z.to r1 r2
  exact⟨h1,P2 _ H2 (Xw.refl _) (by rw[h2];rfl)⟩
theorem F8 [DecidableEq α]{r:Enc α}[z:MonoE r]{ta tb:TE}{ma mb:Rs α}(ha:EvB K Er S OO σ ta r ma)(hb:EvB K Er S OO σ tb r mb):EvB K Er S OO σ (tOp (LP K r) ta tb) Xt (ma.bind λa=>mb.bind λb=>.ok (decide (a=b))):=λH Q w s P=>
 ha.run w s FB.tr P λa x H1 s1 w1 q1 r1 P1=>hb.run w1 q1 FB.tr P1 λb y H2 s2 w2 q2 r2 P2=>⟨a,b,z.mono s2 r1,r2,P2 _ H2 (Xw.refl _) rfl⟩
theorem JU [DecidableEq α]{r:Enc α}[z:MonoE r]{ta tb:TE}{ma mb:Rs α}(ha:EvB K Er S OO σ ta r ma)(hb:EvB K Er S OO σ tb r mb):EvB K Er S OO σ (tOp (LM K r) ta tb) Xt (ma.bind λa=>mb.bind λb=>.ok (!decide (a=b))):=λH Q w s P=>
 ha.run w s FB.tr P λa x H1 s1 w1 q1 r1 P1=>hb.run w1 q1 FB.tr P1 λb y H2 s2 w2 q2 r2 P2=>⟨a,b,z.mono s2 r1,r2,P2 _ H2 (Xw.refl _) rfl⟩
theorem Zo {te:TE}{m:Rs Bool}(h:EvB K Er S OO σ te Xt m):EvT Er S OO σ (tB te) m:=λH Q w s P=>h H _ w s (by
 cases m with
 |bad=>exact P
 |err x=>exact P
 |ok a=>exact λv H' s' r=>⟨a,r,P H' s'⟩)
theorem Xl {te:TE}{m:Rs Bool}(h:EvB K Er S OO σ te Xt m):EvT Er S OO σ (IA te) m:=Zo h
theorem YD {t:TT}{m:Rs Bool}(h:EvT Er S OO σ t m):EvT Er S OO σ (LN t) (m.bind λb=>.ok (!b)):=λH Q w s P=>h.run w s FT.tr P λb H1 s1 w1 q1 P1=>P1 H1 (Xw.refl _)
noncomputable def Kg (a b:Rs Bool):Rs Bool:=a.bind λx=>if x=true then b else .ok false
noncomputable def orR (a b:Rs Bool):Rs Bool:=a.bind λx=>if x=true then .ok true else b
theorem DG {t u:TT}{m n:Rs Bool}(h:EvT Er S OO σ t m)(k:EvT Er S OO σ u n):EvT Er S OO σ (LD t u) (Kg m n):=λH Q w s P=>h.run w s FT.tr P λb H1 s1 w1 q1 P1=>by
 cases b with
 |true=>rw[if_pos rfl] at P1⊢;exact k H1 Q w1 q1 P1
 |false=>exact P1 H1 (Xw.refl _)
theorem Y4 {t u:TT}{m n:Rs Bool}(h:EvT Er S OO σ t m)(k:EvT Er S OO σ u n):EvT Er S OO σ (tOr t u) (orR m n):=λH Q w s P=>h.run w s FT.tr P λb H1 s1 w1 q1 P1=>by
 cases b with
 |true=>exact P1 H1 (Xw.refl _)
 |false=>exact k H1 Q w1 q1 P1
theorem CV {t:TE}{m:Rs Bool}(h:EvB K Er S OO σ t Xt m):EvB K Er S OO σ (HA t) Xt (m.bind λb=>.ok (!b)):=λH Q w s P=>h.run w s FB.tr P λb x H1 s1 w1 q1 r1 P1=>⟨b,r1,P1 _ H1 (Xw.refl _) rfl⟩
theorem JH {t u:TE}{m n:Rs Bool}(h:EvB K Er S OO σ t Xt m)(k:EvB K Er S OO σ u Xt n):EvB K Er S OO σ (IG t u) Xt (Kg m n):=λH Q w s P=>h.run w s FB.tr P λb x H1 s1 w1 q1 r1 P1=>⟨b,r1,by
 cases b with
 |true=>rw[if_pos rfl] at P1⊢;exact k H1 Q w1 q1 P1
 |false=>exact P1 _ H1 (Xw.refl _) rfl⟩
theorem Fk {t u:TE}{m n:Rs Bool}(h:EvB K Er S OO σ t Xt m)(k:EvB K Er S OO σ u Xt n):EvB K Er S OO σ (LH t u) Xt (orR m n):=λH Q w s P=>h.run w s FB.tr P λb x H1 s1 w1 q1 r1 P1=>⟨b,r1,by
 cases b with
 |true=>exact P1 _ H1 (Xw.refl _) rfl
 |false=>exact k H1 Q w1 q1 P1⟩
end
section
variable (K:PySem.W.Frag)(Er:Exc->Hp->Prop)(S:SC)(OO:List (List XA))(σ:St)
noncomputable def FS {α:Type}(r:Enc α)(Q:VK)(a:α)(H:Hp):Prop:=∀ v H',Xw H H'->r K (hid H' OO) v a->Q v H'
noncomputable def EvS {α:Type}(te:TE)(r:Enc α)(m:Rs α):Prop:=∀ H Q,W OO H->S.p (hid H OO)->PZ Er (FS K OO r Q) H m->te σ H Q
noncomputable def rE {α:Type}(r:Enc α)(H:Hp)(v:V)(as:List α):Prop:=∃ p xs,v= .ref p/\H p=some (.lst xs)/\Paired (r K (hid H OO)) xs as
noncomputable def FL {α:Type}(r:Enc α)(Q:VK)(as:List α)(H:Hp):Prop:=∀ v H',Xw H H'->rE K OO r H' v as->Q v H'
noncomputable def EvL {α:Type}(te:TE)(r:Enc α)(m:Rs (List α)):Prop:=∀ H Q,W OO H->S.p (hid H OO)->PZ Er (FL K OO r Q) H m->te σ H Q
end
section
variable {K:PySem.W.Frag}{Er:Exc->Hp->Prop}{S:SC}{OO OO' OO2:List (List XA)}{σ:St}{α β γ:Type}
theorem FS.tr {r:Enc α}{Q:VK}:∀a H H',Xw H H'->FS K OO r Q a H->FS K OO r Q a H':=λa H H' s h v H2 s2 q=>h v H2 (s.trans s2) q
theorem FL.tr {r:Enc α}{Q:VK}:∀a H H',Xw H H'->FL K OO r Q a H->FL K OO r Q a H':=λa H H' s h v H2 s2 q=>h v H2 (s.trans s2) q
theorem PZ.run {F:β->Hp->Prop}{f:α->Rs β}{H H':Hp}{a:α}{m:Rs α}(hm:m= .ok a)(hF:∀b H H',Xw H H'->F b H->F b H')(s:Xw H H')(P:PZ Er F H (m.bind f)):PZ Er F H' (f a):=by
 subst hm
 have P':PZ Er F H (f a):=P
 revert P'
 cases f a with
 |bad=>exact λz=>z
 |err x=>exact λz H2 s2=>z H2 (s.trans s2)
 |ok b=>exact λz=>hF b H H' s z
theorem EvS.run {te:TE}{r:Enc α}{m:Rs α}(he:EvS K Er S OO σ te r m){H:Hp}{Q:VK}(w:W OO H)(s:S.p (hid H OO)){f:α->Rs β}{F:β->Hp->Prop}(hF:∀b H H',Xw H H'->F b H->F b H')(P:PZ Er F H (m.bind f))
  (hk:∀a v H',Xw H H'->W OO H'->S.p (hid H' OO)->r K (hid H' OO) v a->PZ Er F H' (f a)->Q v H'):te σ H Q:=by
 refine he H Q w s ?_
 cases e:m with
 |bad=>rw[e] at P;exact P
 |err x=>rw[e] at P;exact P
 |ok a=>exact λv H' s' hr=>hk a v H' s' (w.keep s') (S.mono _ _ (Xn s') s) hr (PZ.run e hF s' P)
theorem EvL.run {te:TE}{r:Enc α}{m:Rs (List α)}(he:EvL K Er S OO σ te r m){H:Hp}{Q:VK}(w:W OO H)(s:S.p (hid H OO)){f:List α->Rs β}{F:β->Hp->Prop}(hF:∀b H H',Xw H H'->F b H->F b H')(P:PZ Er F H (m.bind f))
  (hk:∀a v H',Xw H H'->W OO H'->S.p (hid H' OO)->rE K OO r H' v a->PZ Er F H' (f a)->Q v H'):te σ H Q:=by
 refine he H Q w s ?_
 cases e:m with
 |bad=>rw[e] at P;exact P
 |err x=>rw[e] at P;exact P
 |ok a=>exact λv H' s' hr=>hk a v H' s' (w.keep s') (S.mono _ _ (Xn s') s) hr (PZ.run e hF s' P)
theorem PZ.imp {F G:β->Hp->Prop}{H:Hp}{m:Rs β}(P:PZ Er F H m)(h:∀b,m= .ok b->F b H->G b H):PZ Er G H m:=by
 cases m with
 |bad=>exact P
 |err x=>exact P
 |ok b=>exact h b rfl P
theorem EvS.toB {te:TE}{r:Enc α}[z:MonoE r]{m:Rs α}(he:EvS K Er S OO σ te r m):EvB K Er S OO σ te r m:=λH Q w s P=>he H Q w s (P.imp λb _ h v H' s' q=>h v H' s' (z.mono XB q))
theorem EvS.ev {te:TE}{r:Enc α}{m:Rs α}(he:EvS K Er S OO σ te r m):Ev K Er S OO OO σ te (oF r) m:=λH Q w s P=>he H Q w s (P.imp λb _ h v H' s' q=>
 h v [] H' s' (w.keep s').nil (by rw[YO];exact Xn s') ⟨rfl,by rw[YO];exact q⟩)
theorem EvB.sh {te:TE}{r:Enc α}[z:FlatE r]{m:Rs α}(he:EvB K Er S OO σ te r m):EvS K Er S OO σ te r m:=λH Q w s P=>he H Q w s (P.imp λb _ h v H' s' q=>h v H' s' (z.flat (w.keep s').i q))
theorem Ev.sh {te:TE}{o:OE α}{r:Enc α}[z:FrzC o r]{m:Rs α}(he:Ev K Er S OO OO σ te o m):EvS K Er S OO σ te r m:=λH Q w s P=>he.frz H Q w s (P.imp λb _ h v C H' s' w' m' q=>by
 obtain⟨rfl,q⟩:=q
 rw[YO] at q
 exact h v H' s' q)
theorem Xz {r:Enc α}{v:V}{a:α}(i:Nat)(hσ:σ[i]?=some (some v))(h:∀x,S.p x->r K x v a):EvS K Er S OO σ (QD i) r (.ok a):=λH Q w s P=>⟨v,hσ,P v H (Xw.refl _) (h _ s)⟩
theorem EvS.ls {te:TE}{r:Enc α}{m:Rs (List α)}(he:EvS K Er S OO σ te (rV r) m):EvL K Er S OO σ te r m:=λH Q w s P=>he H Q w s (P.imp λb _ h v H' s' r9=>by obtain⟨p,xs,e,q,pr⟩:=r9;exact h v H' s' ⟨p,xs,e,XB _ _ q,pr⟩)
theorem EvB.ls {te:TE}{r:Enc α}[z:FlatE r]{m:Rs (List α)}(he:EvB K Er S OO σ te (rV r) m):EvL K Er S OO σ te r m:=λH Q w s P=>he H Q w s (P.imp λb _ h v H' s' r9=>by obtain⟨p,xs,e,q,pr⟩:=r9;exact h v H' s' ⟨p,xs,e,q,Paired.imp2 (λ_ _ z'=>z.flat (w.keep s').i z') pr⟩)
theorem Ev.ls {te:TE}{r:Enc α}[z:MonoE r]{m:Rs (List α)}(he:Ev K Er S OO OO σ te (oL (oF r)) m):EvL K Er S OO σ te r m:=he.sh.ls
theorem BY {r:Enc α}[z:MonoE r]{v:V}{as:List α}{C:List XA}(i k:Nat)(hσ:σ[i]?=some (some v))(hk:OO[k]?=some C)(h:∀x,S.p x->oL (oF r) K x v as C):EvL K Er S OO σ (QD i) r (.ok as):=λH Q w s P=>by
 obtain⟨p,xs,Cs,e,q,c⟩:=h _ s
 refine⟨v,hσ,P v H (Xw.refl _) ⟨p,xs,e,?_,(P3.flat q).1⟩⟩
 exact w.tr (p, .lst xs) (List.mem_flatten.mpr ⟨C,List.mem_of_getElem? hk,by rw[c];exact List.mem_cons_self⟩)
noncomputable def atR (as:List α)(i:Int):Rs α:=match atI as i with
 |some a=>.ok a
 |none=>.bad
theorem Gh {as:List α}{i:Int}{a:α}(h:atR as i= .ok a):atI as i=some a:=by
 unfold atR at h;split at h
 ·cases h;assumption
 ·cases h
theorem U7 {as:List α}{i:Int}{x:Exc}:atR as i≠ .err x:=by unfold atR;split<;> exact λz=>nomatch z
theorem Q6 {F:V->α->Prop}{xs:List V}{as:List α}{i:Int}{a:α}(p:Paired F xs as)(h:atI as i=some a):∃x,atI xs i=some x/\F x a:=by
 unfold atI at h⊢
 rw[Paired.len p]
 cases e:ixN as.length i with
 |none=>rw[e] at h;cases h
 |some j=>
  rw[e] at h
  obtain⟨x,h1,h2⟩:=Paired.getR p h
  exact⟨x,h1,h2⟩
theorem PZ.okOf {F:β->Hp->Prop}{H:Hp}{m:Rs β}(he:∀x,m≠ .err x)(P:PZ Er F H m):∃b,m= .ok b/\F b H:=by
 cases m with
 |bad=>exact P.elim
 |err x=>exact absurd rfl (he x)
 |ok b=>exact⟨b,rfl,P⟩
theorem Xr {ta tb:TE}{r:Enc α}[z:MonoE r]{ma:Rs (List α)}{mb:Rs Int}(ha:EvB K Er S OO σ ta (rV r) ma)(hb:EvB K Er S OO σ tb Xa mb):EvB K Er S OO σ (tOp (BS K) ta tb) r (ma.bind λas=>mb.bind λi=>atR as i):=λH Q w s P=>
 ha.run w s FB.tr P λa x H1 s1 w1 q1 ⟨p,xs,e,q,pr⟩ P1=>hb.run w1 q1 FB.tr P1 λb y H2 s2 w2 q2 r2 P2=>by
  obtain⟨c,hc,P3⟩:=P2.okOf λx=>U7
  obtain⟨u,h1,h2⟩:=Q6 pr (Gh hc)
  exact⟨p,xs,b,u,e,r2,SqL.of (s2 _ _ q),h1,P3 u H2 (Xw.refl _) (z.mono s2 h2)⟩
theorem ET {ta tb:TE}{r:Enc α}[z:MonoE r]{ma:Rs (List α)}{mb:Rs Int}(ha:EvB K Er S OO σ ta (rPL r) ma)(hb:EvB K Er S OO σ tb Xa mb):EvB K Er S OO σ (tOp (Bo K) ta tb) r (ma.bind λas=>mb.bind λi=>atR as i):=λH Q w s P=>
 ha.run w s FB.tr P λa x H1 s1 w1 q1 ⟨p,xs,e,q,pr⟩ P1=>hb.run w1 q1 FB.tr P1 λb y H2 s2 w2 q2 r2 P2=>by
  obtain⟨c,hc,P3⟩:=P2.okOf λx=>U7
  obtain⟨u,h1,h2⟩:=Q6 pr (Gh hc)
  exact⟨p,xs,b,u,e,r2,SqT.of (s2 _ _ q),h1,P3 u H2 (Xw.refl _) (z.mono s2 h2)⟩
theorem ZU {ta:TE}{r:Enc α}{q:Enc β}{m:Rs (α×β)}(ha:EvB K Er S OO σ ta (rP2 r q) m):EvB K Er S OO σ (tOp (Bo K) ta (tC (.int 0))) r (m.bind λp=>.ok p.1):=λH Q w s P=>
 ha.run w s FB.tr P λa x H1 s1 w1 q1 r9 P1=>by obtain⟨p,x,y,e,q,h1,h2⟩:=r9;exact⟨p,_,0,x,e,rfl,SqT.of q,rfl,P1 _ H1 (Xw.refl _) h1⟩
theorem Vc {ta:TE}{r:Enc α}{q:Enc β}{m:Rs (α×β)}(ha:EvB K Er S OO σ ta (rP2 r q) m):EvB K Er S OO σ (tOp (Bo K) ta (tC (.int 1))) q (m.bind λp=>.ok p.2):=λH Q w s P=>
 ha.run w s FB.tr P λa x H1 s1 w1 q1 r9 P1=>by obtain⟨p,x,y,e,q,h1,h2⟩:=r9;exact⟨p,_,1,y,e,rfl,SqT.of q,rfl,P1 _ H1 (Xw.refl _) h2⟩
theorem Uu {ta:TE}{r:Enc α}{q:Enc β}{m:Rs (α×β)}(ha:EvS K Er S OO σ ta (rP2 r q) m):EvS K Er S OO σ (tOp (Bo K) ta (tC (.int 0))) r (m.bind λp=>.ok p.1):=λH Q w s P=>
 ha.run w s FS.tr P λa x H1 s1 w1 q1 r9 P1=>by obtain⟨p,x,y,e,q,h1,h2⟩:=r9;exact⟨p,_,0,x,e,rfl,SqT.of (XB _ _ q),rfl,P1 _ H1 (Xw.refl _) h1⟩
theorem Fb {ta:TE}{r:Enc α}{q:Enc β}{m:Rs (α×β)}(ha:EvS K Er S OO σ ta (rP2 r q) m):EvS K Er S OO σ (tOp (Bo K) ta (tC (.int 1))) q (m.bind λp=>.ok p.2):=λH Q w s P=>
 ha.run w s FS.tr P λa x H1 s1 w1 q1 r9 P1=>by obtain⟨p,x,y,e,q,h1,h2⟩:=r9;exact⟨p,_,1,y,e,rfl,SqT.of (XB _ _ q),rfl,P1 _ H1 (Xw.refl _) h2⟩
theorem XQ {ta:TE}{r:Enc α}{m:Rs (List α)}(ha:EvB K Er S OO σ ta (rV r) m):EvB K Er S OO σ (tCB (Ka K) (XT ta ZQ)) Xa (m.bind λas=>.ok (as.length:Int)):=λH Q w s P=>
 ha.run w s FB.tr P λa x H1 s1 w1 q1 r9 P1=>by obtain⟨p,xs,e,q,pr⟩:=r9;exact⟨p,xs,by rw[e], .inl (SqL.of q),P1 _ H1 (Xw.refl _) (by rw[Paired.len pr];rfl)⟩
theorem V4 {ta:TE}{r:Enc α}{m:Rs (List α)}(ha:EvB K Er S OO σ ta (rPL r) m):EvB K Er S OO σ (tCB (Ka K) (XT ta ZQ)) Xa (m.bind λas=>.ok (as.length:Int)):=λH Q w s P=>
 ha.run w s FB.tr P λa x H1 s1 w1 q1 r9 P1=>by obtain⟨p,xs,e,q,pr⟩:=r9;exact⟨p,xs,by rw[e], .inr (SqT.of q),P1 _ H1 (Xw.refl _) (by rw[Paired.len pr];rfl)⟩
theorem Hd {r:Enc α}[z:MonoE r]{xs:List V}{as:List α}{H:Hp}{Q:VK}(w:W OO H)(pr:Paired (r K (hid H OO)) xs as)(P:FO K OO OO (oL (oF r)) Q as H):∀p,H p=none->Q (.ref p) (upd H p (.lst xs)):=λp hp=>by
 have hn:=Q5 (OO:=OO) hp (o:=.lst xs)
 refine P (.ref p) [(p, .lst xs)] _ (X1 hp _) (w.new hp rfl) hn ?_
 refine⟨p,xs,List.replicate as.length [],rfl,(P3.of (Paired.imp2 (λ_ _ h=>z.mono hn h) pr)).imp λ_ _ _ h=>h,by rw[Yk]⟩
theorem Paired.take' {F:α->β->Prop}:∀{l:List α}{m:List β} (n:Nat),Paired F l m->Paired F (l.take n) (m.take n)
 |_,_,0,_=>.nil
 |_,_,_+1, .nil=>.nil
 |_,_,n+1, .cons r t=>.cons r (Paired.take' n t)
theorem Paired.drop' {F:α->β->Prop}:∀{l:List α}{m:List β} (n:Nat),Paired F l m->Paired F (l.drop n) (m.drop n)
 |_,_,0,h=>h
 |_,_,_+1, .nil=>.nil
 |_,_,n+1, .cons _ t=>Paired.drop' n t
theorem Paired.rep' {F:α->β->Prop}{l:List α}{m:List β}(h:Paired F l m):∀n:Nat,Paired F (List.replicate n l).flatten (List.replicate n m).flatten
 |0=>.nil
 |n+1=>by simp only[List.replicate_succ,List.flatten_cons];exact Paired.app h (Paired.rep' h n)
noncomputable def Uc (as:List α)(lo hi:Option Int):List α:=(as.drop (HT.sIx as.length 0 lo)).take (HT.sIx as.length as.length hi-HT.sIx as.length 0 lo)
theorem Jf {F:V->α->Prop}{xs:List V}{as:List α}(p:Paired F xs as)(lo hi:Option Int):Paired F (BN xs lo hi) (Uc as lo hi):=by
 unfold BN Uc;rw[Paired.len p];exact Paired.take' _ (Paired.drop' _ p)
noncomputable def FP (Q:Option Int->Hp->Prop)(a:Option Int)(H:Hp):Prop:=∀ H',Xw H H'->Q a H'
noncomputable def EvP (Er:Exc->Hp->Prop)(S:SC)(OO:List (List XA))(σ:St)(t:TO)(m:Rs (Option Int)):Prop:=∀ H Q,W OO H->S.p (hid H OO)->PZ Er (FP Q) H m->t σ H Q
theorem EvP.run {t:TO}{m:Rs (Option Int)}(he:EvP Er S OO σ t m){H:Hp}{Q:Option Int->Hp->Prop}(w:W OO H)(s:S.p (hid H OO)){f:Option Int->Rs β}{F:β->Hp->Prop}(hF:∀b H H',Xw H H'->F b H->F b H')(P:PZ Er F H (m.bind f))
  (hk:∀a H',Xw H H'->W OO H'->S.p (hid H' OO)->PZ Er F H' (f a)->Q a H'):t σ H Q:=by
 refine he H Q w s ?_
 cases e:m with
 |bad=>rw[e] at P;exact P
 |err x=>rw[e] at P;exact P
 |ok a=>exact λH' s'=>hk a H' s' (w.keep s') (S.mono _ _ (Xn s') s) (PZ.run e hF s' P)
theorem JG:EvP Er S OO σ Fg (.ok none):=λH Q w s P=>P H (Xw.refl _)
theorem Qb {te:TE}{m:Rs Int}(h:EvB K Er S OO σ te Xa m):EvP Er S OO σ (HJ te) (m.bind λi=>.ok (some i)):=λH Q w s P=>
 h.run w s (λ_ _ _ s h H2 s2=>h H2 (s.trans s2)) P λa v H1 s1 w1 q1 r1 P1=>⟨a,r1,P1 H1 (Xw.refl _)⟩
theorem Ul {te:TE}{tl th:TO}{r:Enc α}[z:MonoE r]{m:Rs (List α)}{ml mh:Rs (Option Int)}(he:EvL K Er S OO σ te r m)(hl:EvP Er S OO σ tl ml)(hh:EvP Er S OO σ th mh):
  Ev K Er S OO OO σ (tSl (IP K) te tl th) (oL (oF r)) (m.bind λas=>ml.bind λlo=>mh.bind λhi=>.ok (Uc as lo hi)):=λH Q w s P=>
 he.run w s FO.tr P λas x H1 s1 w1 q1 ⟨p,xs,e,q,pr⟩ P1=>hl.run w1 q1 FO.tr P1 λlo H2 s2 w2 q2 P2=>hh.run w2 q2 FO.tr P2 λhi H3 s3 w3 q3 P3'=>
  ⟨p,xs,e,SqL.of (s3 _ _ (s2 _ _ q)),Hd w3 (Jf (Paired.imp2 (λ_ _ h=>z.mono ((Xn s2).trans (Xn s3)) h) pr) lo hi) P3'⟩
theorem CO {ta:TE}{r:Enc α}{m:Rs (List α)}(ha:EvB K Er S OO σ ta (rL r) m):EvB K Er S OO σ (tCB (Ka K) (XT ta ZQ)) Xa (m.bind λas=>.ok (as.length:Int)):=λH Q w s P=>
 ha.run w s FB.tr P λa x H1 s1 w1 q1 r9 P1=>by obtain⟨p,xs,e,q,pr⟩:=r9;exact⟨p,xs,by rw[e], .inl q,P1 _ H1 (Xw.refl _) (by rw[Paired.len pr];rfl)⟩
theorem EY {ta tb:TE}{ma:Rs (List Int)}{mb:Rs Int}(ha:EvB K Er S OO σ ta (rL Xa) ma)(hb:EvB K Er S OO σ tb Xa mb):EvB K Er S OO σ (tOp (BS K) ta tb) Xa (ma.bind λas=>mb.bind λi=>atR as i):=λH Q w s P=>
 ha.run w s FB.tr P λa x H1 s1 w1 q1 ⟨p,xs,e,q,pr⟩ P1=>hb.run w1 q1 FB.tr P1 λb y H2 s2 w2 q2 r2 P2=>by
  obtain⟨c,hc,P3⟩:=P2.okOf λx=>U7
  obtain⟨u,h1,h2⟩:=Q6 pr (Gh hc)
  exact⟨p,xs,b,u,e,r2,s2.seq q,h1,P3 u H2 (Xw.refl _) h2⟩
theorem Fm {te:TE}{tl th:TO}{m:Rs (List Int)}{ml mh:Rs (Option Int)}(he:EvB K Er S OO σ te (rL Xa) m)(hl:EvP Er S OO σ tl ml)(hh:EvP Er S OO σ th mh):
  Ev K Er S OO OO σ (tSl (IP K) te tl th) (oL (oF Xa)) (m.bind λas=>ml.bind λlo=>mh.bind λhi=>.ok (Uc as lo hi)):=λH Q w s P=>
 he.run w s FO.tr P λas x H1 s1 w1 q1 ⟨p,xs,e,q,pr⟩ P1=>hl.run w1 q1 FO.tr P1 λlo H2 s2 w2 q2 P2=>hh.run w2 q2 FO.tr P2 λhi H3 s3 w3 q3 P3'=>
  ⟨p,xs,e,s3.seq (s2.seq q),Hd w3 (Jf (Paired.imp2 (λ_ _ h=>h) pr) lo hi) P3'⟩
noncomputable def G7 (as bs:List α):Rs (List α):=chk (as.length+bs.length<=sizeLine) (.ok (as++bs))
theorem F7 {ta tb:TE}{r:Enc α}[z:MonoE r]{ma mb:Rs (List α)}(ha:EvL K Er S OO σ ta r ma)(hb:EvL K Er S OO σ tb r mb):Ev K Er S OO OO σ (tOp IU ta tb) (oL (oF r)) (ma.bind λas=>mb.bind λbs=>G7 as bs):=λH Q w s P=>
 ha.run w s FO.tr P λas x H1 s1 w1 q1 ⟨p,xs,e,q,pr⟩ P1=>hb.run w1 q1 FO.tr P1 λbs y H2 s2 w2 q2 ⟨p',ys,e',q',pr'⟩ P2=>by
  obtain⟨c,hc,P3⟩:=P2.okOf λx=>Ql
  obtain⟨h1,h2⟩:=Zx hc
  cases h2
  exact⟨p,p',xs,ys,e,e',s2 _ _ q,q',by rw[Paired.len pr,Paired.len pr'];exact h1,Hd w2 (Paired.app (Paired.imp2 (λ_ _ h=>z.mono (Xn s2) h) pr) pr') P3⟩
noncomputable def Ca (as:List α)(n:Int):Rs (List α):=chk (-(2^63)<=n/\n<2^63/\as.length*n.toNat<=sizeLine) (.ok (List.replicate n.toNat as).flatten)
theorem Dn {ta tb:TE}{r:Enc α}[z:MonoE r]{ma:Rs (List α)}{mb:Rs Int}(ha:EvL K Er S OO σ ta r ma)(hb:EvB K Er S OO σ tb Xa mb):Ev K Er S OO OO σ (tOp LR ta tb) (oL (oF r)) (ma.bind λas=>mb.bind λn=>Ca as n):=λH Q w s P=>
 ha.run w s FO.tr P λas x H1 s1 w1 q1 ⟨p,xs,e,q,pr⟩ P1=>hb.run w1 q1 FO.tr P1 λn y H2 s2 w2 q2 r2 P2=>by
  obtain⟨c,hc,P3⟩:=P2.okOf λx=>Ql
  obtain⟨⟨h0,h1,h3⟩,h2⟩:=Zx hc
  cases h2
  exact⟨p,n,xs,e,r2,s2 _ _ q,h0,h1,by rw[Paired.len pr];exact h3,Hd w2 (Paired.rep' (Paired.imp2 (λ_ _ h=>z.mono (Xn s2) h) pr) _) P3⟩
theorem Q7 {ta:TE}{r:Enc α}[z:MonoE r]{ma:Rs (List α)}(ha:EvL K Er S OO σ ta r ma):Ev K Er S OO OO σ (tCB (DT K) (XT ta ZQ)) (oL (oF r)) (ma.bind λas=>.ok as):=λH Q w s P=>
 ha.run w s FO.tr P λas x H1 s1 w1 q1 r9 P1=>by obtain⟨p,xs,e,q,pr⟩:=r9;exact⟨p,xs,by rw[e], .inl (SqL.of q),Hd w1 pr P1⟩
noncomputable def VH (lo hi:Int):List Int:=(List.range (hi-lo).toNat).map λ(i:Nat)=>lo+(i:Int)
theorem Jg {o:OE α}:Ev K Er S OO OO σ (IQ ZQ) (oL o) (.ok []):=λH Q w s P=>⟨Nat.zero_le _,λp hp=>P (.ref p) [(p, .lst [])] _ (X1 hp _) (w.new hp rfl) (Q5 hp) ⟨p,[],[],rfl, .nil,rfl⟩⟩
noncomputable def FA {α:Type}(K:PySem.W.Frag)(OO:List (List XA))(r:Enc α)(Q:List V->Hp->Prop)(as:List α)(H:Hp):Prop:=∀ vs H',Xw H H'->Paired (r K (hid H' OO)) vs as->Q vs H'
noncomputable def EvA {α:Type}(K:PySem.W.Frag)(Er:Exc->Hp->Prop)(S:SC)(OO:List (List XA))(σ:St)(t:TA)(r:Enc α)(m:Rs (List α)):Prop:=∀ H Q,W OO H->S.p (hid H OO)->PZ Er (FA K OO r Q) H m->t σ H Q
theorem X9 {r:Enc α}:EvA K Er S OO σ ZQ r (.ok []):=λH Q w s P=>P [] H (Xw.refl _) .nil
theorem Xm {te:TE}{t:TA}{r:Enc α}[z:MonoE r]{m:Rs α}{n:Rs (List α)}(he:EvS K Er S OO σ te r m)(ht:EvA K Er S OO σ t r n):EvA K Er S OO σ (XT te t) r (m.bind λa=>n.bind λas=>.ok (a::as)):=λH Q w s P=>
 he.run w s (λb H H' s h vs H2 s2 p=>h vs H2 (s.trans s2) p) P λa x H1 s1 w1 q1 r1 P1=>by
  refine ht H1 _ w1 q1 ?_
  cases e:n with
  |bad=>rw[e] at P1;exact P1
  |err x=>rw[e] at P1;exact P1
  |ok as=>rw[e] at P1;exact λvs H2 s2 p=>P1 (x::vs) H2 s2 (.cons (z.mono (Xn s2) r1) p)
theorem Z1 {t:TA}{r:Enc α}[z:MonoE r]{m:Rs (List α)}(h:EvA K Er S OO σ t r m):Ev K Er S OO OO σ (IQ t) (oL (oF r)) (m.bind λas=>chk (as.length<=sizeLine) (.ok as)):=λH Q w s P=>by
 refine h H _ w s ?_
 cases e:m with
 |bad=>rw[e] at P;exact P
 |err x=>rw[e] at P;exact P
 |ok as=>
  rw[e] at P
  intro vs H1 s1 p
  obtain⟨c,hc,P3⟩:=PZ.okOf (λx=>Ql) (show PZ Er _ H (chk (as.length<=sizeLine) (.ok as)) from P)
  obtain⟨h1,h2⟩:=Zx hc
  cases h2
  exact⟨by rw[Paired.len p];exact h1,Hd (w.keep s1) p (FO.tr _ _ _ s1 P3)⟩
theorem Zd {t:TA}{r:Enc α}[z:MonoE r]{m:Rs (List α)}(h:EvA K Er S OO σ t r m):EvS K Er S OO σ (IM t) (rPL r) (m.bind λas=>chk (as.length<=sizeLine) (.ok as)):=λH Q w s P=>by
 refine h H _ w s ?_
 cases e:m with
 |bad=>rw[e] at P;exact P
 |err x=>rw[e] at P;exact P
 |ok as=>
  rw[e] at P
  intro vs H1 s1 p
  obtain⟨c,hc,P3⟩:=PZ.okOf (λx=>Ql) (show PZ Er _ H (chk (as.length<=sizeLine) (.ok as)) from P)
  obtain⟨h1,h2⟩:=Zx hc
  cases h2
  have w1:=w.keep s1
  refine⟨by rw[Paired.len p];exact h1,λa ha=>P3 _ _ (s1.trans (X1 ha _)) ⟨a,vs,rfl,JD w1 ha,Paired.imp2 (λ_ _ q=>z.mono (Xn (X1 ha _)) q) p⟩⟩
theorem YJ {ta tb:TE}{r:Enc α}{q:Enc β}[z:MonoE r][y:MonoE q]{ma:Rs α}{mb:Rs β}(ha:EvS K Er S OO σ ta r ma)(hb:EvS K Er S OO σ tb q mb):EvS K Er S OO σ (IM (XT ta (XT tb ZQ))) (rP2 r q) (ma.bind λa=>mb.bind λb=>.ok (a,b)):=λH Q w s P=>
 ha.run w s FS.tr P λa x H1 s1 w1 q1 r1 P1=>hb.run w1 q1 FS.tr P1 λb y' H2 s2 w2 q2 r2 P2=>
  ⟨by show 2<=sizeLine;decide,λp hp=>P2 _ _ (X1 hp _) ⟨p,x,y',rfl,JD w2 hp,z.mono ((Xn s2).trans (Xn (X1 hp _))) r1,y.mono (Xn (X1 hp _)) r2⟩⟩
end
section
variable {K:PySem.W.Frag}{Er:Exc->Hp->Prop}{S:SC}{OO OO' OO2:List (List XA)}{σ:St}{α β γ ρ ι:Type}{α1 α2 α3 α4 α5 α6:Type}
noncomputable def noE (m:Rs α):Rs α:=match m with
 | .ok a=>.ok a
 |_=>.bad
theorem GA {m:Rs α}{a:α}(h:noE m= .ok a):m= .ok a:=by
 cases m with
 |ok b=>exact h
 |bad=>cases h
 |err x=>cases h
theorem KZ {m:Rs α}{x:Exc}:noE m≠ .err x:=by cases m<;> exact λz=>nomatch z
noncomputable def FF (K:PySem.W.Frag)(o:OE α)(Q:VK)(a:α)(H:Hp):Prop:=∀ v C H',W [C] H'->Xw H (hid H' [C])->o K (hid H' [C]) v a C->Q v H'
noncomputable def sp1 (r1:Enc α1)(o:OE ρ)(f:α1->Rs ρ)(K:PySem.W.Frag):Sp:=λvs H Q _=>∃ v1 a1 b,vs=[v1]/\r1 K H v1 a1/\f a1= .ok b/\FF K o Q b H
noncomputable def sp2 (r1:Enc α1)(r2:Enc α2)(o:OE ρ)(f:α1->α2->Rs ρ)(K:PySem.W.Frag):Sp:=λvs H Q _=>∃ v1 v2 a1 a2 b,vs=[v1,v2]/\r1 K H v1 a1/\r2 K H v2 a2/\f a1 a2= .ok b/\FF K o Q b H
noncomputable def sp3 (r1:Enc α1)(r2:Enc α2)(r3:Enc α3)(o:OE ρ)(f:α1->α2->α3->Rs ρ)(K:PySem.W.Frag):Sp:=λvs H Q _=>∃ v1 v2 v3 a1 a2 a3 b,vs=[v1,v2,v3]/\r1 K H v1 a1/\r2 K H v2 a2/\r3 K H v3 a3/\f a1 a2 a3= .ok b/\FF K o Q b H
noncomputable def sp4 (r1:Enc α1)(r2:Enc α2)(r3:Enc α3)(r4:Enc α4)(o:OE ρ)(f:α1->α2->α3->α4->Rs ρ)(K:PySem.W.Frag):Sp:=λvs H Q _=>∃ v1 v2 v3 v4 a1 a2 a3 a4 b,vs=[v1,v2,v3,v4]/\r1 K H v1 a1/\r2 K H v2 a2/\r3 K H v3 a3/\r4 K H v4 a4/\f a1 a2 a3 a4= .ok b/\FF K o Q b H
theorem Ld {C:List XA}{H H':Hp}(w:W OO H)(w':W [C] H')(m':Xw H (hid H' [C])):W (C::OO) H'/\Xw (hid H OO) (hid H' (C::OO))/\Jy (hid H' [C]) (hid H' (C::OO)):=by
 have s:Xw H H':=m'.trans XB
 have f1:fl [C]=C.map (·.1):=by simp[fl]
 have hd:∀b,b∈fl OO->b∉C.map (·.1):=λb hb hc=>by
  obtain⟨u,hu⟩:=GP hb
  exact(Yf (m' _ _ (w.tr _ hu))).2 (by rw[f1];exact hc)
 have w2:W (C::OO) H':=by
  refine⟨λc hc=>?_,?_,λc hc=>?_⟩
  ·rw[List.flatten_cons,List.mem_append] at hc
   rcases hc with hc |hc
   ·exact w'.tr c (by simp[hc])
   ·exact s _ _ (w.tr c hc)
  ·rw[Yh]
   refine List.nodup_append.mpr ⟨by rw[←f1];exact w'.nd,w.nd,λa ha b hb e=>?_⟩
   subst e;exact hd a hb ha
  ·rw[List.flatten_cons,List.mem_append] at hc
   rcases hc with hc |hc
   ·exact w'.mu c (by simp[hc])
   ·exact w.mu c hc
 refine⟨w2,λb u q=>?_,λb u q i=>?_⟩
 ·obtain⟨q1,q2⟩:=Yf q
  obtain⟨q3,q4⟩:=Yf (m' _ _ q1)
  refine ZO q3 ?_
  rw[Yh,List.mem_append]
  exact λz=>z.elim (λz=>q4 (by rw[f1];exact z)) q2
 ·exact w2.i b u (Yf q).1 i
theorem Ja {o:OE α}[z:FlatO o]{Q:VK}{b:α}{H:Hp}(w:W OO H)(P:FO K OO OO o Q b H):FF K o Q b H:=λv C H' w' m' ho=>by
 obtain⟨w2,h2,h3⟩:=Ld w w' m'
 exact P v C H' (m'.trans XB) w2 h2 (z.flat h3 ho)
theorem XS {ta:TE}{r1:Enc α1}{o:OE ρ}[FlatO o]{f:α1->Rs ρ}{ma:Rs α1}(ha:EvB K Er S OO σ ta r1 ma):Ev K Er S OO OO σ (UW (sp1 r1 o f K) [] E0 (XT ta ZQ)) o (ma.bind λa=>noE (f a)):=λH Q w s P=>
 ha.run w s FO.tr P λa x H1 s1 w1 q1 r1 P1=>by
  obtain⟨b,hb,P2⟩:=P1.okOf λx=>KZ
  exact⟨x,a,b,rfl,r1,GA hb,Ja w1 P2⟩
theorem Y9 {ta tb:TE}{r1:Enc α1}{r2:Enc α2}[z1:MonoE r1]{o:OE ρ}[FlatO o]{f:α1->α2->Rs ρ}{ma:Rs α1}{mb:Rs α2}(ha:EvB K Er S OO σ ta r1 ma)(hb:EvB K Er S OO σ tb r2 mb):
  Ev K Er S OO OO σ (UW (sp2 r1 r2 o f K) [] E0 (XT ta (XT tb ZQ))) o (ma.bind λa=>mb.bind λb=>noE (f a b)):=λH Q w s P=>
 ha.run w s FO.tr P λa x H1 s1 w1 q1 r1 P1=>hb.run w1 q1 FO.tr P1 λb y H2 s2 w2 q2 r2 P2=>by
  obtain⟨c,hc,P3⟩:=P2.okOf λx=>KZ
  exact⟨x,y,a,b,c,rfl,z1.mono s2 r1,r2,GA hc,Ja w2 P3⟩
theorem ZZ {ta tb tc:TE}{r1:Enc α1}{r2:Enc α2}{r3:Enc α3}[z1:MonoE r1][z2:MonoE r2]{o:OE ρ}[FlatO o]{f:α1->α2->α3->Rs ρ}{ma:Rs α1}{mb:Rs α2}{mc:Rs α3}(ha:EvB K Er S OO σ ta r1 ma)(hb:EvB K Er S OO σ tb r2 mb)(hc:EvB K Er S OO σ tc r3 mc):
  Ev K Er S OO OO σ (UW (sp3 r1 r2 r3 o f K) [] E0 (XT ta (XT tb (XT tc ZQ)))) o (ma.bind λa=>mb.bind λb=>mc.bind λc=>noE (f a b c)):=λH Q w s P=>
 ha.run w s FO.tr P λa x H1 s1 w1 q1 r1 P1=>hb.run w1 q1 FO.tr P1 λb y H2 s2 w2 q2 r2 P2=>hc.run w2 q2 FO.tr P2 λc z H3 s3 w3 q3 r3 P3=>by
  obtain⟨d,hd,P4⟩:=P3.okOf λx=>KZ
  exact⟨x,y,z,a,b,c,d,rfl,z1.mono (s2.trans s3) r1,z2.mono s3 r2,r3,GA hd,Ja w3 P4⟩
theorem Gb {ta tb tc td:TE}{r1:Enc α1}{r2:Enc α2}{r3:Enc α3}{r4:Enc α4}[z1:MonoE r1][z2:MonoE r2][z3:MonoE r3]{o:OE ρ}[FlatO o]{f:α1->α2->α3->α4->Rs ρ}{ma:Rs α1}{mb:Rs α2}{mc:Rs α3}{md:Rs α4}(ha:EvB K Er S OO σ ta r1 ma)(hb:EvB K Er S OO σ tb r2 mb)(hc:EvB K Er S OO σ tc r3 mc)(hd:EvB K Er S OO σ td r4 md):
  Ev K Er S OO OO σ (UW (sp4 r1 r2 r3 r4 o f K) [] E0 (XT ta (XT tb (XT tc (XT td ZQ))))) o (ma.bind λa=>mb.bind λb=>mc.bind λc=>md.bind λd=>noE (f a b c d)):=λH Q w s P=>
 ha.run w s FO.tr P λa x H1 s1 w1 q1 r1 P1=>hb.run w1 q1 FO.tr P1 λb y H2 s2 w2 q2 r2 P2=>hc.run w2 q2 FO.tr P2 λc z H3 s3 w3 q3 r3 P3=>hd.run w3 q3 FO.tr P3 λd u H4 s4 w4 q4 r4 P4=>by
  obtain⟨e,he,P5⟩:=P4.okOf λx=>KZ
  exact⟨x,y,z,u,a,b,c,d,e,rfl,z1.mono (s2.trans (s3.trans s4)) r1,z2.mono (s3.trans s4) r2,z3.mono s4 r3,r4,GA he,Ja w4 P5⟩
structure Jn (γ ι:Type) where
 oo:ι->List (List XA)
 ss:ι->St
 sc:γ->ι->SC
inductive Ctl (ρ γ:Type) where
 |ret (r:ρ) |nx (g:γ)
noncomputable def FTd (K:PySem.W.Frag)(o:OE ρ)(D:Ends)(r:ρ)(h:Hp):Prop:=∀ v C OO' H',W (C::OO') H'->Xw h (hid H' (C::OO'))->o K (hid H' (C::OO')) v r C->D.rt v H'
noncomputable def FNd (J:Jn γ ι)(D:Ends)(g:γ)(h:Hp):Prop:=∀ x H',W (J.oo x) H'->Xw h (hid H' (J.oo x))->(J.sc g x).p (hid H' (J.oo x))->D.nx (J.ss x) H'
noncomputable def FCd (K:PySem.W.Frag)(o:OE ρ)(J:Jn γ ι)(D:Ends)(c:Ctl ρ γ)(h:Hp):Prop:=match c with
 | .ret r=>FTd K o D r h
 | .nx g=>FNd J D g h
class FdOk (Fd:Ends->β->Hp->Prop):Prop where
 tr:∀D b h h',Xw h h'->Fd D b h->Fd D b h'
instance {o:OE ρ}:FdOk (FTd K o):=⟨λD b h h' s q v C O H' w m x=>q v C O H' w (s.trans m) x⟩
instance {J:Jn γ ι}:FdOk (FNd J):=⟨λD b h h' s q x H' w m y=>q x H' w (s.trans m) y⟩
instance {o:OE ρ}{J:Jn γ ι}:FdOk (FCd K o J):=⟨λD b h h' s q=>by
 cases b with
 |ret r=>exact λv C O H' w m x=>q v C O H' w (s.trans m) x
 |nx g=>exact λx H' w m y=>q x H' w (s.trans m) y⟩
theorem PZ.tr {F:β->Hp->Prop}(hF:∀b H H',Xw H H'->F b H->F b H'){H H':Hp}{m:Rs β}(s:Xw H H')(P:PZ Er F H m):PZ Er F H' m:=by
 cases m with
 |bad=>exact P
 |err x=>exact λH2 s2=>P H2 (s.trans s2)
 |ok b=>exact hF b H H' s P
noncomputable def Sv (Er:Exc->Hp->Prop)(S:SC)(OO:List (List XA))(σ:St)(t:TS)(Fd:Ends->β->Hp->Prop)(m:Rs β):Prop:=∀ H D,W OO H->S.p (hid H OO)->PZ Er (Fd D) (hid H OO) m->t D σ H
variable {Fd:Ends->β->Hp->Prop}[fd:FdOk Fd]{u:TS}
theorem Ev.st {te:TE}{o:OE α}{m:Rs α}(he:Ev K Er S OO OO' σ te o m){H:Hp}{D:Ends}{Q:VK}(w:W OO H)(s:S.p (hid H OO)){f:α->Rs β}(P:PZ Er (Fd D) (hid H OO) (m.bind f))
  (hk:∀a v C H',W (C::OO') H'->S.p (hid H' (C::OO'))->o K (hid H' (C::OO')) v a C->PZ Er (Fd D) (hid H' (C::OO')) (f a)->Q v H'):te σ H Q:=by
 refine he H Q w s ?_
 cases m with
 |bad=>exact P
 |err x=>exact λH' s'=>P H' (XB.trans s')
 |ok a=>exact λv C H' s' w' m' ho=>hk a v C H' w' (S.mono _ _ m' s) ho (PZ.tr (fd.tr D) m' P)
theorem EvB.st {te:TE}{r:Enc α}{m:Rs α}(he:EvB K Er S OO σ te r m){H:Hp}{D:Ends}{Q:VK}(w:W OO H)(s:S.p (hid H OO)){f:α->Rs β}(P:PZ Er (Fd D) (hid H OO) (m.bind f))
  (hk:∀a v H',Xw H H'->W OO H'->S.p (hid H' OO)->r K H' v a->PZ Er (Fd D) (hid H' OO) (f a)->Q v H'):te σ H Q:=by
 refine he H Q w s ?_
 cases m with
 |bad=>exact P
 |err x=>exact λH' s'=>P H' (XB.trans s')
 |ok a=>exact λv H' s' hr=>hk a v H' s' (w.keep s') (S.mono _ _ (Xn s') s) hr (PZ.tr (fd.tr D) (Xn s') P)
theorem EvS.st {te:TE}{r:Enc α}{m:Rs α}(he:EvS K Er S OO σ te r m){H:Hp}{D:Ends}{Q:VK}(w:W OO H)(s:S.p (hid H OO)){f:α->Rs β}(P:PZ Er (Fd D) (hid H OO) (m.bind f))
  (hk:∀a v H',Xw H H'->W OO H'->S.p (hid H' OO)->r K (hid H' OO) v a->PZ Er (Fd D) (hid H' OO) (f a)->Q v H'):te σ H Q:=by
 refine he H Q w s ?_
 cases m with
 |bad=>exact P
 |err x=>exact λH' s'=>P H' (XB.trans s')
 |ok a=>exact λv H' s' hr=>hk a v H' s' (w.keep s') (S.mono _ _ (Xn s') s) hr (PZ.tr (fd.tr D) (Xn s') P)
theorem EvT.st {tt:TT}{m:Rs Bool}(he:EvT Er S OO σ tt m){H:Hp}{D:Ends}{Q:Bool->Hp->Prop}(w:W OO H)(s:S.p (hid H OO)){f:Bool->Rs β}(P:PZ Er (Fd D) (hid H OO) (m.bind f))
  (hk:∀b H',W OO H'->S.p (hid H' OO)->PZ Er (Fd D) (hid H' OO) (f b)->Q b H'):tt σ H Q:=by
 refine he H Q w s ?_
 cases m with
 |bad=>exact P
 |err x=>exact λH' s'=>P H' (XB.trans s')
 |ok a=>exact λH' s'=>hk a H' (w.keep s') (S.mono _ _ (Xn s') s) (PZ.tr (fd.tr D) (Xn s') P)
theorem set_set {OO:List (List XA)}{k:Nat}{C:List XA}:(OO.set k C).set k []=OO.set k []:=by simp
theorem Io {C:List XA}{H:Hp}{k:Nat}(w:W (C::OO) H)(hk:k<OO.length):W (OO.set k C) H/\Xw (hid H (C::OO)) (hid H (OO.set k C)):=by
 have h1:=X0 (OO:=OO) (k:=k) (C:=OO[k]) (by simp[hk])
 have h2:=X0 (OO:=OO.set k C) (k:=k) (C:=C) (by simp[hk])
 rw[set_set] at h2
 have h3:(OO.set k C).flatten.Perm (C++(OO.set k []).flatten):=by simpa using h2.symm
 have h4:(C::OO).flatten.Perm (C++(OO[k]++(OO.set k []).flatten)):=by
  rw[List.flatten_cons];exact(by simpa using h1.symm:OO.flatten.Perm (OO[k]++(OO.set k []).flatten)).append_left C
 have h5:(C++(OO.set k []).flatten).Sublist (C++(OO[k]++(OO.set k []).flatten)):=List.Sublist.append (List.Sublist.refl _) (List.sublist_append_right _ _)
 have w1:W [C++(OO[k]++(OO.set k []).flatten)] H:=w.of (by simpa using h4.symm)
 have w2:W [C++(OO.set k []).flatten] H:=w1.sub (by simpa using h5)
 refine⟨w2.of (by simpa using h3),QA (Xw.refl _) λb hb=>?_⟩
 obtain⟨o,ho⟩:=GP hb
 exact VC (h4.mem_iff.mpr (h5.mem (h3.mem_iff.mp ho)))
theorem Ya {te:TE}{o:OE α}[MonoO o]{m:Rs α}{f:α->Rs β}(i k:Nat)(he:Ev K Er S OO OO' σ te o m)(hk:k<OO'.length)(hr:∀a v C,Sv Er (S.addO K o v a C) (OO'.set k C) (σ.set i (some v)) u Fd (f a)):Sv Er S OO σ (Qr (FU te (Z2 i)) u) Fd (m.bind f):=λH D w s P=>
 he.st w s P λa v C H' w' s' ho P'=>by
  obtain⟨w2,h2⟩:=Io w' hk
  exact hr a v C H' D w2 ⟨S.mono _ _ h2 s',MonoO.mono h2 ho⟩ (PZ.tr (fd.tr D) h2 P')
theorem XH {te:TE}{r:Enc α}[MonoE r]{m:Rs α}{f:α->Rs β}(i:Nat)(he:EvS K Er S OO σ te r m)(hr:∀a v,Sv Er (S.add K r v a) OO (σ.set i (some v)) u Fd (f a)):Sv Er S OO σ (Qr (FU te (Z2 i)) u) Fd (m.bind f):=λH D w s P=>
 he.st w s P λa v H' s1 w' s' ho P'=>hr a v H' D w' ⟨s',ho⟩ P'
theorem XD {te:TE}{o:OE ρ}{m:Rs ρ}(he:Ev K Er S OO OO' σ te o m):Sv Er S OO σ (Qr (LU te) u) (FTd K o) m:=λH D w s P=>
 he H _ w s (by
  cases m with
  |bad=>exact P
  |err x=>exact λH' s'=>P H' (XB.trans s')
  |ok a=>exact λv C H' s' w' m' ho=>P v C OO' H' w' m' ho)
theorem Qq {J:Jn γ ι}{t:TS}{o:OE ρ}{m:Rs γ}(h:Sv Er S OO σ t (FNd J) m):Sv Er S OO σ t (FCd K o J) (m.bind λr=>.ok (.nx r)):=λH D w s P=>h H D w s (by
 cases m with
 |bad=>exact P
 |err x=>exact P
 |ok a=>exact P)
theorem Xx {J:Jn γ ι}(x:ι)(g:γ)(h1:OO=J.oo x)(h2:σ=J.ss x)(h3:∀h,S.p h->(J.sc g x).p h):Sv Er S OO σ Bf (FNd J) (.ok g):=λH D w s P=>by
 subst h1 h2
 exact P x H w (Xw.refl _) (h3 _ s)
theorem YG {o:OE ρ}{c:TT}{t1:TS}{mc:Rs Bool}{m1 m2:Rs ρ}(hc:EvT Er S OO σ c mc)(h1:Sv Er S OO σ t1 (FTd K o) m1)(h2:Sv Er S OO σ u (FTd K o) m2):Sv Er S OO σ (Qr (IS c t1 Bf) u) (FTd K o) (mc.bind λb=>if b=true then m1 else m2):=λH D w s P=>
 hc.st (Fd:=FTd K o) w s P λb H' w' s' P'=>by
  cases b with
  |true=>rw[if_pos rfl] at P'⊢;exact h1 H' _ w' s' P'
  |false=>exact h2 H' D w' s' P'
theorem ZD {o:OE ρ}{J:Jn γ ι}{c:TT}{t1:TS}{mc:Rs Bool}{m1:Rs ρ}{m2:Rs (Ctl ρ γ)}(hc:EvT Er S OO σ c mc)(h1:Sv Er S OO σ t1 (FTd K o) m1)(h2:Sv Er S OO σ u (FCd K o J) m2):Sv Er S OO σ (Qr (IS c t1 Bf) u) (FCd K o J) (mc.bind λb=>if b=true then m1.bind (λr=>.ok (.ret r)) else m2):=λH D w s P=>
 hc.st (Fd:=FCd K o J) w s P λb H' w' s' P'=>by
  cases b with
  |true=>
   rw[if_pos rfl] at P'⊢
   refine h1 H' _ w' s' ?_
   cases m1 with
   |bad=>exact P'
   |err x=>exact P'
   |ok a=>exact P'
  |false=>exact h2 H' D w' s' P'
theorem YW {c:TT}{t1 t2:TS}{mc:Rs Bool}{m1 m2:Rs β}(hc:EvT Er S OO σ c mc)(h1:Sv Er S OO σ t1 Fd m1)(h2:Sv Er S OO σ t2 Fd m2):Sv Er S OO σ (IS c t1 t2) Fd (mc.bind λb=>if b=true then m1 else m2):=λH D w s P=>
 hc.st w s P λb H' w' s' P'=>by
  cases b with
  |true=>rw[if_pos rfl] at P'⊢;exact h1 H' _ w' s' P'
  |false=>exact h2 H' D w' s' P'
theorem Yt {J:Jn γ ι}{t:TS}{m:Rs γ}{f:γ->Rs β}(hb:Sv Er S OO σ t (FNd J) m)(hr:∀g x,Sv Er (J.sc g x) (J.oo x) (J.ss x) u Fd (f g)):Sv Er S OO σ (Qr t u) Fd (m.bind f):=λH D w s P=>
 hb H _ w s (by
  cases m with
  |bad=>exact P
  |err x=>exact P
  |ok g=>exact λx H' w' m' q=>hr g x H' D w' q (PZ.tr (fd.tr D) m' P))
noncomputable def Q2 (f:γ->Rs ρ):Ctl ρ γ->Rs ρ
 | .ret r=>.ok r
 | .nx g=>f g
noncomputable def Qp {δ:Type}(f:γ->Rs (Ctl ρ δ)):Ctl ρ γ->Rs (Ctl ρ δ)
 | .ret r=>.ok (.ret r)
 | .nx g=>f g
theorem Sv.weak {S2:SC}{t:TS}{m:Rs β}(h:Sv Er S2 OO σ t Fd m)(hs:∀x,S.p x->S2.p x):Sv Er S OO σ t Fd m:=λH D w s P=>h H D w (hs _ s) P
theorem LS {C D C':List XA}{H:Hp}{k:Nat}{p:Addr}{o:HO}(w:W (D::OO) H)(hk:OO[k]?=some C)(hp:p∈C.map (·.1))(hC:(C'.map (·.1)).Perm ((C++D).map (·.1)))(ht:∀c∈C',upd H p o c.1=some c.2)(hm:∀c∈C',Ef c.2=true):
  W (OO.set k C') (upd H p o)/\hid (upd H p o) (OO.set k C')=hid H (D::OO):=by
 have hlt:k<OO.length:=by
  rcases Nat.lt_or_ge k OO.length with h |h
  ·exact h
  ·rw[List.getElem?_eq_none h] at hk;cases hk
 have h1:=X0 hk
 have h2:=X0 (OO:=OO.set k C') (k:=k) (C:=C') (by simp[hlt])
 rw[set_set] at h2
 have h3:(OO.set k C').flatten.Perm (C'++(OO.set k []).flatten):=by simpa using h2.symm
 have h4:(D::OO).flatten.Perm (D++(C++(OO.set k []).flatten)):=by
  rw[List.flatten_cons];exact(by simpa using h1.symm:OO.flatten.Perm (C++(OO.set k []).flatten)).append_left D
 have hfl:(fl (OO.set k C')).Perm (fl (D::OO)):=by
  unfold fl
  refine(h3.map _).trans (List.Perm.trans ?_ (h4.map _).symm)
  simp only[List.map_append]
  refine(hC.append_right _).trans ?_
  simp only[List.map_append]
  rw[←List.append_assoc]
  exact List.perm_append_comm.append_right _
 have nd:=w.nd
 refine⟨⟨λc hc=>?_,hfl.nodup_iff.mpr nd,λc hc=>?_⟩,?_⟩
 ·rcases List.mem_append.mp (h3.mem_iff.mp hc) with hc |hc
  ·exact ht c hc
  ·have hne:c.1≠p:=λe=>by
    have nd2:((D++(C++(OO.set k []).flatten)).map (·.1)).Nodup:=(h4.map _).nodup_iff.mp nd
    simp only[List.map_append] at nd2
    have nd3:=(List.nodup_append.mp nd2).2.1
    exact(List.nodup_append.mp nd3).2.2 p hp c.1 (List.mem_map.mpr ⟨c,hc,rfl⟩) e.symm
   rw[Xv hne]
   exact w.tr c (h4.mem_iff.mpr (by simp[hc]))
 ·rcases List.mem_append.mp (h3.mem_iff.mp hc) with hc |hc
  ·exact hm c hc
  ·exact w.mu c (h4.mem_iff.mpr (by simp[hc]))
 ·funext b
  unfold hid
  by_cases hb:b∈fl (D::OO)
  ·rw[if_pos hb,if_pos (hfl.mem_iff.mpr hb)]
  ·rw[if_neg hb,if_neg λz=>hb (hfl.mem_iff.mp z)]
   refine Xv λe=>hb ?_
   rw[e]
   obtain⟨c,hc,rfl⟩:=List.mem_map.mp hp
   exact VC (h4.mem_iff.mpr (by simp[hc]))
theorem YT {Cs:List (List XA)}{D:List XA}:(Cs++[D]).flatten=Cs.flatten++D:=by simp
theorem Jp {ta:TE}{o:OE α}[MonoO o]{m:Rs α}{f:List α->Rs β}{v:V}{as:List α}{C:List XA}(i k:Nat)(hσ:σ[i]?=some (some v))(hk:OO[k]?=some C)(hk':OO'[k]?=some C)(h:∀x,S.p x->oL o K x v as C)(he:Ev K Er S OO OO' σ ta o m)
  (hr:∀a C',Sv Er (S.addO K (oL o) v (as++[a]) C') (OO'.set k C') σ u Fd (f (as++[a]))):Sv Er S OO σ (Qr (Jd (tBM K "list" Q4 (QD i) (XT ta ZQ))) u) Fd (m.bind λa=>chk (as.length<sizeLine) (f (as++[a]))):=λH D w s P=>by
 obtain⟨p,xs,Cs,e,q,c⟩:=h _ s
 subst c
 have hH:H p=some (.lst xs):=w.tr (p, .lst xs) (List.mem_flatten.mpr ⟨_,List.mem_of_getElem? hk,List.mem_cons_self⟩)
 refine⟨v,hσ,by rw[e];exact .inl ⟨rfl,_,SqL.of hH⟩,he.st w s P λa y D' H' w' s' ho P'=>?_⟩
 obtain⟨p',xs',Cs',e2,q2,c2⟩:=h _ s'
 rw[e] at e2;cases e2
 have c3:(p,HO.lst xs)=(p,HO.lst xs')/\Cs.flatten=Cs'.flatten:=by
  injection c2 with h1 h2
  exact⟨h1,h2⟩
 obtain⟨c3,c4⟩:=c3
 cases c3
 have hH':H' p=some (.lst xs):=w'.tr (p, .lst xs) (by rw[List.flatten_cons];exact List.mem_append_right _ (List.mem_flatten.mpr ⟨_,List.mem_of_getElem? hk',List.mem_cons_self⟩))
 cases hlt:decide (as.length<sizeLine) with
 |false=>rw[chk,if_neg (by simpa using hlt)] at P';exact P'.elim
 |true=>
  have hlt':as.length<sizeLine:=by simpa using hlt
  rw[XG hlt'] at P'
  have wnd:=w'.nd
  have hcell:∀c∈(p,HO.lst (xs++[y]))::(Cs'++[D']).flatten,upd H' p (.lst (xs++[y])) c.1=some c.2:=λc hc=>by
   rcases List.mem_cons.mp hc with rfl |hc
   ·exact XL
   ·have hp1:=X0 hk'
    have w3:W [D'++(((p,HO.lst xs)::Cs.flatten)++(OO'.set k []).flatten)] H':=w'.of (by
     simp only[List.flatten_cons,List.flatten_nil,List.append_nil]
     exact(by simpa using hp1:(((p,HO.lst xs)::Cs.flatten)++(OO'.set k []).flatten).Perm OO'.flatten).append_left D')
    have hin:c∈D'++(((p,HO.lst xs)::Cs.flatten)++(OO'.set k []).flatten):=by
     rw[YT,List.mem_append] at hc
     rcases hc with hc |hc
     ·rw[←c4] at hc;simp[hc]
     ·simp[hc]
    have hne:c.1≠p:=λee=>by
     have nd3:=w3.nd
     rw[YT,List.mem_append, ←c4] at hc
     simp only[fl,List.flatten_cons,List.flatten_nil,List.append_nil,List.map_append,List.cons_append,List.map_cons] at nd3
     rw[List.nodup_append] at nd3
     obtain⟨_,n2,n3⟩:=nd3
     rcases hc with hc |hc
     ·exact(List.nodup_cons.mp n2).1 (List.mem_append_left _ (List.mem_map.mpr ⟨c,hc,ee⟩))
     ·exact n3 c.1 (List.mem_map.mpr ⟨c,hc,rfl⟩) p List.mem_cons_self ee
    rw[Xv hne]
    exact w3.tr c (by simpa using hin)
  obtain⟨w4,h4⟩:=LS (C':=(p, .lst (xs++[y]))::(Cs'++[D']).flatten) w' hk' List.mem_cons_self (by simp[YT,c4]) hcell (λc hc=>by
   rcases List.mem_cons.mp hc with rfl |hc
   ·rfl
   ·rw[YT,List.mem_append, ←c4] at hc
    rcases hc with hc |hc
    ·exact w'.mu c (by rw[List.flatten_cons];exact List.mem_append_right _ (List.mem_flatten.mpr ⟨_,List.mem_of_getElem? hk',List.mem_cons_of_mem _ hc⟩))
    ·exact w'.mu c (by rw[List.flatten_cons];exact List.mem_append_left _ hc))
  refine⟨p,xs,y,e,rfl,hH',by rw[(P3.len q).1];exact hlt',?_⟩
  refine hr a _ _ D w4 ?_ (by rw[h4];exact P')
  rw[h4]
  exact⟨s',⟨p,xs++[y],Cs'++[D'],e,q2.snoc ho,rfl⟩⟩
end
section
variable {K:PySem.W.Frag}{Er:Exc->Hp->Prop}{S:SC}{OO OO' OO2:List (List XA)}{σ:St}{α β γ ρ ι δ ε:Type}
variable {Fd:Ends->β->Hp->Prop}[fd:FdOk Fd]{u:TS}
noncomputable def forN:List α->γ->(γ->α->Rs γ)->Rs γ
 | [],g,_=>.ok g
 |a::as,g,f=>(f g a).bind λg'=>forN as g' f
noncomputable def forC:List α->γ->(γ->α->Rs (Ctl ρ γ))->Rs (Ctl ρ γ)
 | [],g,_=>.ok (.nx g)
 |a::as,g,f=>(f g a).bind λc=>match c with
  | .ret r=>.ok (.ret r)
  | .nx g'=>forC as g' f
theorem Yx {m:Rs α}{f:α->Rs β}{g:β->Rs γ}:(m.bind f).bind g=m.bind λa=>(f a).bind g:=by cases m<;> rfl
structure Tgt (K:PySem.W.Frag)(OO:List (List XA))(g:TG)(r:Enc α)(κ:Type) where
 set:κ->St->St
 sc:α->κ->SC->SC
 ok:∀{H:Hp}{v:V}{a:α}{σ:St}{S:SC}{Q:St->Hp->Prop},r K (hid H OO) v a->S.p (hid H OO)->(∀x,(sc a x S).p (hid H OO)->Q (set x σ) H)->g v σ H Q
noncomputable def tg1 {r:Enc α}[MonoE r](i:Nat):Tgt K OO (Z2 i) r V where
 set:=λv σ=>σ.set i (some v)
 sc:=λa v S=>S.add K r v a
 ok:=fun {H v a σ S Q} hr hs hq=>hq v ⟨hs,hr⟩
noncomputable def tg2 {r:Enc α}{q:Enc β}[MonoE r][MonoE q](i j:Nat):Tgt K OO (Hg K 2 (V8 (Z2 i) (V8 (Z2 j) Hv))) (rP2 r q) (V×V) where
 set:=λv σ=>(σ.set i (some v.1)).set j (some v.2)
 sc:=λa v S=>(S.add K r v.1 a.1).add K q v.2 a.2
 ok:=fun {H v a σ S Q} r9 hs hq=>by obtain⟨p,x,y,e,h,h1,h2⟩:=r9;exact⟨p,_,e,SqT.of (XB _ _ h),rfl,x,[y],rfl,y,[],rfl,rfl,hq (x,y) ⟨⟨hs,h1⟩,h2⟩⟩
structure Walk (K:PySem.W.Frag)(Er:Exc->Hp->Prop)(S:SC)(OO:List (List XA))(σ:St)(wi:TI)(r:Enc α)(m:Rs (List α)):Prop where
 ok:∀{H:Hp}{R:It->Hp->Prop},W OO H->S.p (hid H OO)->PZ Er (λas H=>∀ J H',Xw H H'->
   (∀(i:Nat) a,as[i]?=some a->∀OO2 H2,W OO2 H2->Xw (hid H' OO) (hid H2 OO2)->J.go i H2/\∀x H3,J.yld i H2 x H3->Xw H2 H3/\r K (hid H3 OO2) x a)->
   (∀OO2 H2,W OO2 H2->Xw (hid H' OO) (hid H2 OO2)->J.stop as.length H2)->R J H') H m->wi σ H R
theorem X5 {te:TE}{r:Enc α}[z:MonoE r]{m:Rs (List α)}(he:EvS K Er S OO σ te (rV r) m):Walk K Er S OO σ (EU K te) r m:=⟨fun {H R} w s P=>by
 refine he H _ w s (P.imp λas _ h v H' s' ⟨p,xs,e,hp,pr⟩=>⟨p,e,⟨xs,SqL.of (XB _ _ hp)⟩,h _ H' s' ?_ ?_⟩)
 ·intro i a ha OO2 H2 w2 m2
  obtain⟨x,hx,rx⟩:=Paired.getR pr ha
  have hq:SqL K H2 p xs:=SqL.of (XB _ _ (m2 _ _ hp))
  refine⟨⟨xs,x,hq,hx⟩,λy H3 r9=>?_⟩
  obtain⟨e3,hy⟩:=r9
  subst e3
  refine⟨Xw.refl _,?_⟩
  have:=hy xs hq
  rw[hx] at this
  cases this
  exact z.mono m2 rx
 ·intro OO2 H2 w2 m2
  exact⟨xs,SqL.of (XB _ _ (m2 _ _ hp)),by rw[Paired.len pr];exact Nat.le_refl _⟩⟩
theorem Cy {te:TE}{r:Enc α}[z:MonoE r]{m:Rs (List α)}(he:EvS K Er S OO σ te (rPL r) m):Walk K Er S OO σ (La K te) r m:=⟨fun {H R} w s P=>by
 refine he H _ w s (P.imp λas _ h v H' s' ⟨p,xs,e,hp,pr⟩=>⟨p,e,⟨xs,SqT.of (XB _ _ hp)⟩,h _ H' s' ?_ ?_⟩)
 ·intro i a ha OO2 H2 w2 m2
  obtain⟨x,hx,rx⟩:=Paired.getR pr ha
  have hq:SqT K H2 p xs:=SqT.of (XB _ _ (m2 _ _ hp))
  refine⟨⟨xs,x,hq,hx⟩,λy H3 r9=>?_⟩
  obtain⟨e3,hy⟩:=r9
  subst e3
  refine⟨Xw.refl _,?_⟩
  have:=hy xs hq
  rw[hx] at this
  cases this
  exact z.mono m2 rx
 ·intro OO2 H2 w2 m2
  exact⟨xs,SqT.of (XB _ _ (m2 _ _ hp)),by rw[Paired.len pr];exact Nat.le_refl _⟩⟩
noncomputable def Vz (as:List α):List (Int×α):=(List.range as.length).map (λ(i:Nat)=>(i:Int)) |>.zip as
theorem FN {as:List α}{i:Nat}{p:Int×α}(h:(Vz as)[i]?=some p):p.1=(i:Int)/\as[i]?=some p.2:=by
 unfold Vz at h
 rw[List.getElem?_zip_eq_some] at h
 obtain⟨h1,h2⟩:=h
 rw[List.getElem?_map] at h1
 have hlt:i<as.length:=by
  rcases Nat.lt_or_ge i as.length with q |q
  ·exact q
  ·rw[List.getElem?_eq_none q] at h2;cases h2
 rw[List.getElem?_range hlt] at h1
 exact⟨(Option.some.inj h1).symm,h2⟩
theorem F2 {as:List α}:(Vz as).length=as.length:=by simp[Vz]
theorem JX {te:TE}{r:Enc α}[z:MonoE r]{m:Rs (List α)}(he:EvS K Er S OO σ te (rV r) m):Walk K Er S OO σ (Ij K te) (rP2 Xa r) (m.bind λas=>.ok (Vz as)):=⟨fun {H R} w s P=>by
 refine he H _ w s ?_
 cases em:m with
 |bad=>rw[em] at P;exact P
 |err x=>rw[em] at P;exact P
 |ok as=>
  rw[em] at P
  intro v H' s' ⟨p,xs,e,hp,pr⟩
  refine⟨p,e,⟨xs,SqL.of (XB _ _ hp)⟩,P _ H' s' ?_ ?_⟩
  ·intro i a ha OO2 H2 w2 m2
   obtain⟨ha1,ha2⟩:=FN ha
   obtain⟨x,hx,rx⟩:=Paired.getR pr ha2
   have hq:SqL K H2 p xs:=SqL.of (XB _ _ (m2 _ _ hp))
   refine⟨⟨xs,x,hq,hx⟩,λy H3 h3=>?_⟩
   obtain⟨b,x',rfl,hb,rfl,hy⟩:=h3
   have:=hy xs hq
   rw[hx] at this
   cases this
   refine⟨X1 hb _,⟨b, .int i,x,rfl,JD w2 hb,by show V.int _=V.int _;rw[ha1],z.mono (m2.trans (Xn (X1 hb _))) rx⟩⟩
  ·intro OO2 H2 w2 m2
   exact⟨xs,SqL.of (XB _ _ (m2 _ _ hp)),by rw[F2,Paired.len pr];exact Nat.le_refl _⟩⟩
theorem GF {lo hi:Int}{i:Nat}{a:Int}(h:(VH lo hi)[i]?=some a):a=lo+i/\i<(hi-lo).toNat:=by
 unfold VH at h
 rw[List.getElem?_map] at h
 rcases Nat.lt_or_ge i (hi-lo).toNat with q |q
 ·rw[List.getElem?_range q] at h;exact⟨(Option.some.inj h).symm,q⟩
 ·rw[List.getElem?_eq_none (by simpa using q)] at h;cases h
theorem GM {lo hi:Int}:(VH lo hi).length=(hi-lo).toNat:=by simp[VH]
noncomputable def UD (lo hi:Int):Rs (List Int):=chk (-(2^62)<=lo/\lo<2^62/\ -(2^62)<=hi/\hi<2^62) (.ok (VH lo hi))
theorem XO {te:TE}{m:Rs Int}(he:EvB K Er S OO σ te Xa m):Walk K Er S OO σ (HE (XT te ZQ)) Xa (m.bind λn=>UD 0 n):=⟨fun {H R} w s P=>
 he.run w s (λas H H' s' h J H2 s2=>h J H2 (s'.trans s2)) P λn v H1 s1 w1 q1 r1 P1=>by
  obtain⟨c,hc,P2⟩:=P1.okOf λx=>Ql
  obtain⟨⟨_,_,h1,h2⟩,h3⟩:=Zx hc
  cases h3
  refine⟨n,by rw[show v= .int n from r1],h1,h2,P2 _ H1 (Xw.refl _) (λi a ha OO2 H2 w2 m2=>?_) λOO2 H2 w2 m2=>?_⟩
  ·obtain⟨e1,e2⟩:=GF ha
   rw[Int.sub_zero] at e2
   refine⟨e2,λx H3 r9=>?_⟩
   obtain⟨e3,e4⟩:=r9
   subst e3
   exact⟨Xw.refl _,by rw[e4,e1];rfl⟩
  ·show n.toNat<=_
   rw[GM,Int.sub_zero];exact Nat.le_refl _⟩
theorem Zu {wi:TI}{g:TG}{tb:TS}{r:Enc α}{κ:Type}{m:Rs (List α)}{body:γ->α->Rs γ}{f:γ->Rs β}(J:Jn γ ι)(T:∀OO,Tgt K OO g r κ)(x0:ι)(g0:γ)(he:Walk K Er S OO σ wi r m)(h1:OO=J.oo x0)(h2:σ=J.ss x0)(h3:∀h,S.p h->(J.sc g0 x0).p h)
  (hb:∀g x a v,Sv Er ((T (J.oo x)).sc a v (J.sc g x)) (J.oo x) ((T (J.oo x)).set v (J.ss x)) tb (FNd J) (body g a))
  (hr:∀g x,Sv Er (J.sc g x) (J.oo x) (J.ss x) u Fd (f g)):Sv Er S OO σ (Qr (IN wi g tb) u) Fd (m.bind λas=>(forN as g0 body).bind f):=λH D w s P=>by
 refine he.ok w s ?_
 cases em:m with
 |bad=>rw[em] at P;exact P
 |err x=>rw[em] at P;exact λH' s'=>P H' (XB.trans s')
 |ok as=>
  rw[em] at P
  have P:PZ Er (Fd D) (hid H OO) ((forN as g0 body).bind f):=P
  intro It H' s' hgo hstop
  refine⟨λi mm σ' H2=>mm=as.length-i/\i<=as.length/\∃x gg,σ'=J.ss x/\W (J.oo x) H2/\Xw (hid H' OO) (hid H2 (J.oo x))/\(J.sc gg x).p (hid H2 (J.oo x))/\PZ Er (Fd D) (hid H2 (J.oo x)) ((forN (as.drop i) gg body).bind f),⟨as.length,rfl,Nat.zero_le _,x0,g0,h2,?_,?_,?_,?_⟩,?_⟩
  ·rw[←h1];exact w.keep s'
  ·rw[←h1];exact Xw.refl _
  ·rw[←h1];exact h3 _ (S.mono _ _ (Xn s') s)
  ·rw[←h1,List.drop_zero];exact PZ.tr (fd.tr D) (Xn s') P
  ·rintro i mm σ' H2 ⟨rfl,hi,x,gg,rfl,w2,m2,sc2,P2⟩
   by_cases hlt:i<as.length
   ·right
    have ha:as[i]?=some as[i]:=by simp[hlt]
    obtain⟨h4,h5⟩:=hgo i _ ha (J.oo x) H2 w2 m2
    refine⟨h4,λσ3 H3=>∃ x gg,σ3=J.ss x/\W (J.oo x) H3/\Xw (hid H' OO) (hid H3 (J.oo x))/\(J.sc gg x).p (hid H3 (J.oo x))/\PZ Er (Fd D) (hid H3 (J.oo x)) ((forN (as.drop (i+1)) gg body).bind f),λσ3 H3 q=>⟨as.length-(i+1),Nat.sub_lt_sub_left hlt (Nat.lt_succ_self i),rfl,hlt,q⟩,λy H3 hy=>?_⟩
    obtain⟨s3,r3⟩:=h5 y H3 hy
    have w3:=w2.keep s3
    have m3:=Xn (OO:=J.oo x) s3
    refine(T (J.oo x)).ok r3 ((J.sc gg x).mono _ _ m3 sc2) λv hv=>hb gg x as[i] v H3 _ w3 hv ?_
    rw[List.drop_eq_getElem_cons hlt] at P2
    have P3:PZ Er (Fd D) (hid H2 (J.oo x)) ((body gg as[i]).bind λg'=>(forN (as.drop (i+1)) g' body).bind f):=by rw[←Yx];exact P2
    cases eb:body gg as[i] with
    |bad=>rw[eb] at P3;exact P3
    |err x=>rw[eb] at P3;exact λH4 s4=>P3 H4 (m3.trans s4)
    |ok g'=>
     rw[eb] at P3
     exact λx' H4 w4 m4 sc4=>⟨x',g',rfl,w4,m2.trans (m3.trans m4),sc4,PZ.tr (fd.tr D) (m3.trans m4) P3⟩
   ·left
    have e:i=as.length:=Nat.le_antisymm hi (Nat.not_lt.mp hlt)
    subst e
    refine⟨hstop (J.oo x) H2 w2 m2,hr gg x H2 D w2 sc2 ?_⟩
    rw[List.drop_length] at P2
    exact P2
theorem Qu {o:OE ρ}{wi:TI}{g:TG}{tb:TS}{r:Enc α}{κ:Type}{m:Rs (List α)}{body:γ->α->Rs (Ctl ρ γ)}{f:γ->Rs ρ}(J:Jn γ ι)(T:∀OO,Tgt K OO g r κ)(x0:ι)(g0:γ)(he:Walk K Er S OO σ wi r m)(h1:OO=J.oo x0)(h2:σ=J.ss x0)(h3:∀h,S.p h->(J.sc g0 x0).p h)
  (hb:∀g x a v,Sv Er ((T (J.oo x)).sc a v (J.sc g x)) (J.oo x) ((T (J.oo x)).set v (J.ss x)) tb (FCd K o J) (body g a))
  (hr:∀g x,Sv Er (J.sc g x) (J.oo x) (J.ss x) u (FTd K o) (f g)):Sv Er S OO σ (Qr (IN wi g tb) u) (FTd K o) (m.bind λas=>(forC as g0 body).bind (Q2 f)):=λH D w s P=>by
 refine he.ok w s ?_
 cases em:m with
 |bad=>rw[em] at P;exact P
 |err x=>rw[em] at P;exact λH' s'=>P H' (XB.trans s')
 |ok as=>
  rw[em] at P
  have P:PZ Er (FTd K o D) (hid H OO) ((forC as g0 body).bind (Q2 f)):=P
  intro It H' s' hgo hstop
  refine⟨λi mm σ' H2=>mm=as.length-i/\i<=as.length/\∃x gg,σ'=J.ss x/\W (J.oo x) H2/\Xw (hid H' OO) (hid H2 (J.oo x))/\(J.sc gg x).p (hid H2 (J.oo x))/\PZ Er (FTd K o D) (hid H2 (J.oo x)) ((forC (as.drop i) gg body).bind (Q2 f)),⟨as.length,rfl,Nat.zero_le _,x0,g0,h2,?_,?_,?_,?_⟩,?_⟩
  ·rw[←h1];exact w.keep s'
  ·rw[←h1];exact Xw.refl _
  ·rw[←h1];exact h3 _ (S.mono _ _ (Xn s') s)
  ·rw[←h1,List.drop_zero];exact PZ.tr (FdOk.tr D) (Xn s') P
  ·rintro i mm σ' H2 ⟨rfl,hi,x,gg,rfl,w2,m2,sc2,P2⟩
   by_cases hlt:i<as.length
   ·right
    have ha:as[i]?=some as[i]:=by simp[hlt]
    obtain⟨h4,h5⟩:=hgo i _ ha (J.oo x) H2 w2 m2
    refine⟨h4,λσ3 H3=>∃ x gg,σ3=J.ss x/\W (J.oo x) H3/\Xw (hid H' OO) (hid H3 (J.oo x))/\(J.sc gg x).p (hid H3 (J.oo x))/\PZ Er (FTd K o D) (hid H3 (J.oo x)) ((forC (as.drop (i+1)) gg body).bind (Q2 f)),λσ3 H3 q=>⟨as.length-(i+1),Nat.sub_lt_sub_left hlt (Nat.lt_succ_self i),rfl,hlt,q⟩,λy H3 hy=>?_⟩
    obtain⟨s3,r3⟩:=h5 y H3 hy
    have w3:=w2.keep s3
    have m3:=Xn (OO:=J.oo x) s3
    refine(T (J.oo x)).ok r3 ((J.sc gg x).mono _ _ m3 sc2) λv hv=>hb gg x as[i] v H3 _ w3 hv ?_
    rw[List.drop_eq_getElem_cons hlt] at P2
    have P3:PZ Er (FTd K o D) (hid H2 (J.oo x)) ((body gg as[i]).bind λc=>(match c with
     | .ret r=>Rs.ok (Ctl.ret r)
     | .nx g'=>forC (as.drop (i+1)) g' body).bind (Q2 f)):=by rw[←Yx];exact P2
    cases eb:body gg as[i] with
    |bad=>rw[eb] at P3;exact P3
    |err x=>rw[eb] at P3;exact λH4 s4=>P3 H4 (m3.trans s4)
    |ok c=>
     rw[eb] at P3
     cases c with
     |ret r=>exact FdOk.tr (Fd:=FTd K o) D r _ _ m3 P3
     |nx g'=>exact λx' H4 w4 m4 sc4=>⟨x',g',rfl,w4,m2.trans (m3.trans m4),sc4,PZ.tr (FdOk.tr D) (m3.trans m4) P3⟩
   ·left
    have e:i=as.length:=Nat.le_antisymm hi (Nat.not_lt.mp hlt)
    subst e
    refine⟨hstop (J.oo x) H2 w2 m2,hr gg x H2 D w2 sc2 ?_⟩
    rw[List.drop_length] at P2
    exact P2
theorem V9 {κ2:Type}{o:OE ρ}{J2:Jn δ κ2}{wi:TI}{g:TG}{tb:TS}{r:Enc α}{κ:Type}{m:Rs (List α)}{body:γ->α->Rs (Ctl ρ γ)}{f:γ->Rs (Ctl ρ δ)}(J:Jn γ ι)(T:∀OO,Tgt K OO g r κ)(x0:ι)(g0:γ)(he:Walk K Er S OO σ wi r m)(h1:OO=J.oo x0)(h2:σ=J.ss x0)(h3:∀h,S.p h->(J.sc g0 x0).p h)
  (hb:∀g x a v,Sv Er ((T (J.oo x)).sc a v (J.sc g x)) (J.oo x) ((T (J.oo x)).set v (J.ss x)) tb (FCd K o J) (body g a))
  (hr:∀g x,Sv Er (J.sc g x) (J.oo x) (J.ss x) u (FCd K o J2) (f g)):Sv Er S OO σ (Qr (IN wi g tb) u) (FCd K o J2) (m.bind λas=>(forC as g0 body).bind (Qp f)):=λH D w s P=>by
 refine he.ok w s ?_
 cases em:m with
 |bad=>rw[em] at P;exact P
 |err x=>rw[em] at P;exact λH' s'=>P H' (XB.trans s')
 |ok as=>
  rw[em] at P
  have P:PZ Er (FCd K o J2 D) (hid H OO) ((forC as g0 body).bind (Qp f)):=P
  intro It H' s' hgo hstop
  refine⟨λi mm σ' H2=>mm=as.length-i/\i<=as.length/\∃x gg,σ'=J.ss x/\W (J.oo x) H2/\Xw (hid H' OO) (hid H2 (J.oo x))/\(J.sc gg x).p (hid H2 (J.oo x))/\PZ Er (FCd K o J2 D) (hid H2 (J.oo x)) ((forC (as.drop i) gg body).bind (Qp f)),⟨as.length,rfl,Nat.zero_le _,x0,g0,h2,?_,?_,?_,?_⟩,?_⟩
  ·rw[←h1];exact w.keep s'
  ·rw[←h1];exact Xw.refl _
  ·rw[←h1];exact h3 _ (S.mono _ _ (Xn s') s)
  ·rw[←h1,List.drop_zero];exact PZ.tr (FdOk.tr D) (Xn s') P
  ·rintro i mm σ' H2 ⟨rfl,hi,x,gg,rfl,w2,m2,sc2,P2⟩
   by_cases hlt:i<as.length
   ·right
    have ha:as[i]?=some as[i]:=by simp[hlt]
    obtain⟨h4,h5⟩:=hgo i _ ha (J.oo x) H2 w2 m2
    refine⟨h4,λσ3 H3=>∃ x gg,σ3=J.ss x/\W (J.oo x) H3/\Xw (hid H' OO) (hid H3 (J.oo x))/\(J.sc gg x).p (hid H3 (J.oo x))/\PZ Er (FCd K o J2 D) (hid H3 (J.oo x)) ((forC (as.drop (i+1)) gg body).bind (Qp f)),λσ3 H3 q=>⟨as.length-(i+1),Nat.sub_lt_sub_left hlt (Nat.lt_succ_self i),rfl,hlt,q⟩,λy H3 hy=>?_⟩
    obtain⟨s3,r3⟩:=h5 y H3 hy
    have w3:=w2.keep s3
    have m3:=Xn (OO:=J.oo x) s3
    refine(T (J.oo x)).ok r3 ((J.sc gg x).mono _ _ m3 sc2) λv hv=>hb gg x as[i] v H3 _ w3 hv ?_
    rw[List.drop_eq_getElem_cons hlt] at P2
    have P3:PZ Er (FCd K o J2 D) (hid H2 (J.oo x)) ((body gg as[i]).bind λc=>(match c with
     | .ret r=>Rs.ok (Ctl.ret r)
     | .nx g'=>forC (as.drop (i+1)) g' body).bind (Qp f)):=by rw[←Yx];exact P2
    cases eb:body gg as[i] with
    |bad=>rw[eb] at P3;exact P3
    |err x=>rw[eb] at P3;exact λH4 s4=>P3 H4 (m3.trans s4)
    |ok c=>
     rw[eb] at P3
     cases c with
     |ret r=>exact FdOk.tr (Fd:=FTd K o) D r _ _ m3 P3
     |nx g'=>exact λx' H4 w4 m4 sc4=>⟨x',g',rfl,w4,m2.trans (m3.trans m4),sc4,PZ.tr (FdOk.tr D) (m3.trans m4) P3⟩
   ·left
    have e:i=as.length:=Nat.le_antisymm hi (Nat.not_lt.mp hlt)
    subst e
    refine⟨hstop (J.oo x) H2 w2 m2,hr gg x H2 D w2 sc2 ?_⟩
    rw[List.drop_length] at P2
    exact P2
noncomputable def JN:Nat->γ->(γ->Rs Bool)->(γ->Rs γ)->Rs γ
 |0,_,_,_=>.bad
 |n+1,g,c,f=>(c g).bind λb=>if b=true then(f g).bind λg'=>JN n g' c f else .ok g
theorem CG {c:TT}{tb:TS}{mc:γ->Rs Bool}{body:γ->Rs γ}{f:γ->Rs β}(J:Jn γ ι)(n:Nat)(x0:ι)(g0:γ)(h1:OO=J.oo x0)(h2:σ=J.ss x0)(h3:∀h,S.p h->(J.sc g0 x0).p h)
  (hc:∀g x,EvT Er (J.sc g x) (J.oo x) (J.ss x) c (mc g))(hb:∀g x,Sv Er (J.sc g x) (J.oo x) (J.ss x) tb (FNd J) (body g))
  (hr:∀g x,Sv Er (J.sc g x) (J.oo x) (J.ss x) u Fd (f g)):Sv Er S OO σ (Qr (BF c tb) u) Fd ((JN n g0 mc body).bind f):=λH D w s P=>by
 refine⟨λmm σ' H2=>∃ x gg,σ'=J.ss x/\W (J.oo x) H2/\(J.sc gg x).p (hid H2 (J.oo x))/\PZ Er (Fd D) (hid H2 (J.oo x)) ((JN mm gg mc body).bind f),⟨n,x0,g0,h2,by rw[←h1];exact w,by rw[←h1];exact h3 _ s,by rw[←h1];exact P⟩,?_⟩
 rintro mm σ' H2 ⟨x,gg,rfl,w2,sc2,P2⟩
 cases mm with
 |zero=>exact P2.elim
 |succ mm=>
  have P3:PZ Er (Fd D) (hid H2 (J.oo x)) ((mc gg).bind λb=>(if b=true then(body gg).bind λg'=>JN mm g' mc body else .ok gg).bind f):=by rw[←Yx];exact P2
  refine(hc gg x).st w2 sc2 P3 λb H3 w3 sc3 P4=>?_
  cases b with
  |false=>exact hr gg x H3 D w3 sc3 P4
  |true=>
   rw[if_pos rfl] at P4⊢
   refine⟨λσ3 H4=>∃ x gg,σ3=J.ss x/\W (J.oo x) H4/\(J.sc gg x).p (hid H4 (J.oo x))/\PZ Er (Fd D) (hid H4 (J.oo x)) ((JN mm gg mc body).bind f),λσ3 H4 q=>⟨mm,Nat.lt_succ_self _,q⟩,hb gg x H3 _ w3 sc3 ?_⟩
   rw[Yx] at P4
   cases eb:body gg with
   |bad=>rw[eb] at P4;exact P4
   |err x=>rw[eb] at P4;exact P4
   |ok g'=>
    rw[eb] at P4
    exact λx' H5 w5 m5 sc5=>⟨x',g',rfl,w5,sc5,PZ.tr (fd.tr D) m5 P4⟩
noncomputable def G6 (as:List α)(f:α->Rs β):Rs (List β):=match as with
 | []=>.ok []
 |a::as=>(f a).bind λb=>(G6 as f).bind λbs=>.ok (b::bs)
noncomputable def DQ (as:List α)(f:α->Rs β):Rs (List β):=chk (as.length<=sizeLine) (G6 as f)
noncomputable def Gm (as:List α)(c:α->Rs Bool)(f:α->Rs β):Rs (List β):=match as with
 | []=>.ok []
 |a::as=>(c a).bind λb=>if b=true then(f a).bind λb=>(Gm as c f).bind λbs=>.ok (b::bs) else Gm as c f
noncomputable def IT (as:List α)(c:α->Rs Bool)(f:α->Rs β):Rs (List β):=chk (as.length<=sizeLine) (Gm as c f)
theorem PZ.chk {F:β->Hp->Prop}{H:Hp}{c:Prop}[Decidable c]{m:Rs β}(P:PZ Er F H (chk c m)):c/\PZ Er F H m:=by
 unfold L2.chk at P;split at P
 ·exact⟨by assumption,P⟩
 ·exact P.elim
theorem Eo {o:OE α}[z:MonoO o]{xs:List V}{as:List α}{Cs:List (List XA)}{H H0:Hp}{Q:VK}(w:W (Cs.flatten::OO) H)(m0:Xw (hid H0 OO) (hid H (Cs.flatten::OO)))(s0:Xw H0 H)(pr:P3 (o K (hid H (Cs.flatten::OO))) xs as Cs)(P:FO K OO OO (oL o) Q as H0):∀p,H p=none->Q (.ref p) (upd H p (.lst xs)):=λp hp=>by
 have hn:=Q5 (OO:=Cs.flatten::OO) hp (o:=.lst xs)
 have wn:=w.new hp (o:=.lst xs) rfl
 have pe:(((p,HO.lst xs)::Cs.flatten)::OO).flatten.Perm ([(p,HO.lst xs)]::Cs.flatten::OO).flatten:=by simp
 refine P (.ref p) ((p, .lst xs)::Cs.flatten) _ (s0.trans (X1 hp _)) (wn.of pe) ?_ ?_
 ·rw[Yd pe];exact m0.trans hn
 ·rw[Yd pe]
  exact⟨p,xs,Cs,rfl,pr.imp λ_ _ _ h=>z.mono hn h,rfl⟩
theorem Qv {o:OE β}[z:MonoO o]{wi:TI}{g:TG}{te:TE}{r:Enc α}{κ:Type}{m:Rs (List α)}{f:α->Rs β}{n:Nat}{caps:List (Nat×Str)}(T:∀OO,Tgt K OO g r κ)(he:Walk K Er S OO σ wi r m)
  (hb:∀C a v,Ev K Er ((T (C::OO)).sc a v S) (C::OO) (C::OO) ((T (C::OO)).set v (QN n caps σ)) te o (f a)):Ev K Er S OO OO σ (FD n caps wi g Ur te) (oL o) (m.bind λas=>DQ as f):=λH Q w s P=>by
 refine he.ok w s ?_
 cases em:m with
 |bad=>rw[em] at P;exact P
 |err x=>rw[em] at P;exact P
 |ok as=>
  rw[em] at P
  obtain⟨hsz,P⟩:=PZ.chk (show PZ Er _ H (chk (as.length<=sizeLine) (G6 as f)) from P)
  intro It H' s' hgo hstop
  -- what is left: the Y1 of the items, then all
  refine⟨λi mm ys H2=>mm=as.length-i/\i<=as.length/\∃bs Cs,Xw H H2/\W (Cs.flatten::OO) H2/\Xw (hid H' OO) (hid H2 (Cs.flatten::OO))/\P3 (o K (hid H2 (Cs.flatten::OO))) ys bs Cs/\bs.length=i/\PZ Er (FO K OO OO (oL o) Q) H ((G6 (as.drop i) f).bind λY1=>.ok (bs++Y1)),
   ⟨as.length,rfl,Nat.zero_le _,[],[],s',(w.keep s').nil,by show Xw _ (hid H' ([]::OO));rw[YO];exact Xw.refl _, .nil,rfl,?_⟩,?_⟩
  ·rw[List.drop_zero]
   revert P
   cases G6 as f<;> exact λz=>z
  ·rintro i mm ys H2 ⟨rfl,hi,bs,Cs,s2,w2,m2,pr,hlen,P2⟩
   refine⟨by rw[pr.len.1,hlen];(first|lia|omega),?_⟩
   by_cases hlt:i<as.length
   ·right
    have ha:as[i]?=some as[i]:=by simp[hlt]
    obtain⟨h4,h5⟩:=hgo i _ ha (Cs.flatten::OO) H2 w2 m2
    refine⟨h4,λys' H3=>∃ bs Cs,Xw H H3/\W (Cs.flatten::OO) H3/\Xw (hid H' OO) (hid H3 (Cs.flatten::OO))/\P3 (o K (hid H3 (Cs.flatten::OO))) ys' bs Cs/\bs.length=i+1/\PZ Er (FO K OO OO (oL o) Q) H ((G6 (as.drop (i+1)) f).bind λY1=>.ok (bs++Y1)),λys' H3 q=>⟨as.length-(i+1),Nat.sub_lt_sub_left hlt (Nat.lt_succ_self i),rfl,hlt,q⟩,λy H3 hy=>?_⟩
    obtain⟨s3,r3⟩:=h5 y H3 hy
    have w3:=w2.keep s3
    have m3:=Xn (OO:=Cs.flatten::OO) s3
    have sS:S.p (hid H3 (Cs.flatten::OO)):=S.mono _ _ ((Xn s').trans (m2.trans m3)) s
    refine(T (Cs.flatten::OO)).ok r3 sS λv hv=>?_
    show Ur _ _ _
    refine HZ ?_
    rw[List.drop_eq_getElem_cons hlt] at P2
    have P3':PZ Er (FO K OO OO (oL o) Q) H ((f as[i]).bind λb=>(G6 (as.drop (i+1)) f).bind λY1=>.ok (bs++b::Y1)):=by
     have:((f as[i]).bind λb=>(G6 (as.drop (i+1)) f).bind λY1=>Rs.ok (bs++b::Y1))=(G6 (as[i]::as.drop (i+1)) f).bind λY1=>.ok (bs++Y1):=by
      show _=((f as[i]).bind λb=>(G6 (as.drop (i+1)) f).bind λbs=>Rs.ok (b::bs)).bind _
      rw[Yx];congr 1;funext b;rw[Yx];rfl
     rw[this];exact P2
    refine hb Cs.flatten as[i] v H3 _ w3 hv ?_
    cases eb:f as[i] with
    |bad=>rw[eb] at P3';exact P3'
    |err x=>rw[eb] at P3';exact λH4 s4=>P3' H4 (s2.trans (s3.trans s4))
    |ok b=>
     rw[eb] at P3'
     intro v' C' H4 s4 w4 m4 ho
     have pe:((Cs++[C']).flatten::OO).flatten.Perm (C'::Cs.flatten::OO).flatten:=by
      simp only[YT,List.flatten_cons]
      rw[List.append_assoc, ←List.append_assoc, ←List.append_assoc]
      exact List.perm_append_comm.append_right _
     refine⟨bs++[b],Cs++[C'],s2.trans (s3.trans s4),w4.of pe,?_,?_,by simp[hlen],?_⟩
     ·rw[Yd pe];exact m2.trans (m3.trans m4)
     ·rw[Yd pe];exact P3.snoc (pr.imp λ_ _ _ h=>z.mono (m3.trans m4) h) ho
     ·have P4:PZ Er (FO K OO OO (oL o) Q) H ((G6 (as.drop (i+1)) f).bind λY1=> .ok (bs++b::Y1)):=P3'
      simpa using P4
   ·left
    have e:i=as.length:=Nat.le_antisymm hi (Nat.not_lt.mp hlt)
    subst e
    refine⟨hstop (Cs.flatten::OO) H2 w2 m2,?_⟩
    rw[List.drop_length] at P2
    have P3':FO K OO OO (oL o) Q (bs++[]) H:=P2
    rw[List.append_nil] at P3'
    exact Eo (H0:=H) w2 ((Xn s').trans m2) s2 pr P3'
theorem Ct {o:OE β}[z:MonoO o]{wi:TI}{g:TG}{tt:TT}{te:TE}{r:Enc α}{κ:Type}{m:Rs (List α)}{c:α->Rs Bool}{f:α->Rs β}{n:Nat}{caps:List (Nat×Str)}(T:∀OO,Tgt K OO g r κ)(he:Walk K Er S OO σ wi r m)
  (hc:∀C a v,EvT Er ((T (C::OO)).sc a v S) (C::OO) ((T (C::OO)).set v (QN n caps σ)) tt (c a))
  (hb:∀C a v,Ev K Er ((T (C::OO)).sc a v S) (C::OO) (C::OO) ((T (C::OO)).set v (QN n caps σ)) te o (f a)):Ev K Er S OO OO σ (FD n caps wi g tt te) (oL o) (m.bind λas=>IT as c f):=λH Q w s P=>by
 refine he.ok w s ?_
 cases em:m with
 |bad=>rw[em] at P;exact P
 |err x=>rw[em] at P;exact P
 |ok as=>
  rw[em] at P
  obtain⟨hsz,P⟩:=PZ.chk (show PZ Er _ H (chk (as.length<=sizeLine) (Gm as c f)) from P)
  intro It H' s' hgo hstop
  refine⟨λi mm ys H2=>mm=as.length-i/\i<=as.length/\∃bs Cs,Xw H H2/\W (Cs.flatten::OO) H2/\Xw (hid H' OO) (hid H2 (Cs.flatten::OO))/\P3 (o K (hid H2 (Cs.flatten::OO))) ys bs Cs/\bs.length<=i/\PZ Er (FO K OO OO (oL o) Q) H ((Gm (as.drop i) c f).bind λY1=>.ok (bs++Y1)),
   ⟨as.length,rfl,Nat.zero_le _,[],[],s',(w.keep s').nil,by show Xw _ (hid H' ([]::OO));rw[YO];exact Xw.refl _, .nil,Nat.zero_le _,?_⟩,?_⟩
  ·rw[List.drop_zero]
   revert P
   cases Gm as c f<;> exact λz=>z
  ·rintro i mm ys H2 ⟨rfl,hi,bs,Cs,s2,w2,m2,pr,hlen,P2⟩
   refine⟨by rw[pr.len.1];(first|lia|omega),?_⟩
   by_cases hlt:i<as.length
   ·right
    have ha:as[i]?=some as[i]:=by simp[hlt]
    obtain⟨h4,h5⟩:=hgo i _ ha (Cs.flatten::OO) H2 w2 m2
    refine⟨h4,λys' H3=>∃ bs Cs,Xw H H3/\W (Cs.flatten::OO) H3/\Xw (hid H' OO) (hid H3 (Cs.flatten::OO))/\P3 (o K (hid H3 (Cs.flatten::OO))) ys' bs Cs/\bs.length<=i+1/\PZ Er (FO K OO OO (oL o) Q) H ((Gm (as.drop (i+1)) c f).bind λY1=>.ok (bs++Y1)),λys' H3 q=>⟨as.length-(i+1),Nat.sub_lt_sub_left hlt (Nat.lt_succ_self i),rfl,hlt,q⟩,λy H3 hy=>?_⟩
    obtain⟨s3,r3⟩:=h5 y H3 hy
    have w3:=w2.keep s3
    have m3:=Xn (OO:=Cs.flatten::OO) s3
    have sS:S.p (hid H3 (Cs.flatten::OO)):=S.mono _ _ ((Xn s').trans (m2.trans m3)) s
    refine(T (Cs.flatten::OO)).ok r3 sS λv hv=>?_
    rw[List.drop_eq_getElem_cons hlt] at P2
    have P3':PZ Er (FO K OO OO (oL o) Q) H ((c as[i]).bind λb=>(if b=true then(f as[i]).bind λb=>(Gm (as.drop (i+1)) c f).bind λbs=>.ok (b::bs) else Gm (as.drop (i+1)) c f).bind λY1=>.ok (bs++Y1)):=by
     rw[←Yx];exact P2
    refine hc Cs.flatten as[i] v H3 _ w3 hv ?_
    cases ec:c as[i] with
    |bad=>rw[ec] at P3';exact P3'
    |err x=>rw[ec] at P3';exact λH4 s4=>P3' H4 (s2.trans (s3.trans s4))
    |ok b=>
     rw[ec] at P3'
     intro H4 s4
     have w4:=w3.keep s4
     have m4:=Xn (OO:=Cs.flatten::OO) s4
     cases b with
     |false=>exact⟨bs,Cs,s2.trans (s3.trans s4),w4,m2.trans (m3.trans m4),pr.imp λ_ _ _ h=>z.mono (m3.trans m4) h,Nat.le_succ_of_le hlen,P3'⟩
     |true=>
      rw[if_pos rfl]
      have P4:PZ Er (FO K OO OO (oL o) Q) H ((f as[i]).bind λb=>(Gm (as.drop (i+1)) c f).bind λY1=>.ok (bs++b::Y1)):=by
       have:((f as[i]).bind λb=>(Gm (as.drop (i+1)) c f).bind λY1=>Rs.ok (bs++b::Y1))=((f as[i]).bind λb=>(Gm (as.drop (i+1)) c f).bind λbs=>Rs.ok (b::bs)).bind λY1=>.ok (bs++Y1):=by
        rw[Yx];congr 1;funext b;rw[Yx];rfl
       rw[this];exact P3'
      refine hb Cs.flatten as[i] v H4 _ w4 (((T (Cs.flatten::OO)).sc as[i] v S).mono _ _ m4 hv) ?_
      cases eb:f as[i] with
      |bad=>rw[eb] at P4;exact P4
      |err x=>rw[eb] at P4;exact λH5 s5=>P4 H5 (s2.trans (s3.trans (s4.trans s5)))
      |ok b=>
       rw[eb] at P4
       intro v' C' H5 s5 w5 m5 ho
       have pe:((Cs++[C']).flatten::OO).flatten.Perm (C'::Cs.flatten::OO).flatten:=by
        simp only[YT,List.flatten_cons]
        rw[List.append_assoc, ←List.append_assoc, ←List.append_assoc]
        exact List.perm_append_comm.append_right _
       refine⟨bs++[b],Cs++[C'],s2.trans (s3.trans (s4.trans s5)),w5.of pe,?_,?_,by simpa using hlen,?_⟩
       ·rw[Yd pe];exact m2.trans (m3.trans (m4.trans m5))
       ·rw[Yd pe];exact P3.snoc (pr.imp λ_ _ _ h=>z.mono (m3.trans (m4.trans m5)) h) ho
       ·have P5:PZ Er (FO K OO OO (oL o) Q) H ((Gm (as.drop (i+1)) c f).bind λY1=> .ok (bs++b::Y1)):=P4
        simpa using P5
   ·left
    have e:i=as.length:=Nat.le_antisymm hi (Nat.not_lt.mp hlt)
    subst e
    refine⟨hstop (Cs.flatten::OO) H2 w2 m2,?_⟩
    rw[List.drop_length] at P2
    have P3':FO K OO OO (oL o) Q (bs++[]) H:=P2
    rw[List.append_nil] at P3'
    exact Eo (H0:=H) w2 ((Xn s').trans m2) s2 pr P3'
noncomputable def Qg (as:List α)(i:Int)(a:α):Rs (List α):=match ixN as.length i with
 |some j=>.ok (as.set j a)
 |none=>.bad
end
section
variable {K:PySem.W.Frag}{Er:Exc->Hp->Prop}{S:SC}{OO OO' OO2:List (List XA)}{σ:St}{α β γ ρ ι δ ε:Type}
variable {Fd:Ends->β->Hp->Prop}[fd:FdOk Fd]{u:TS}
theorem E5 {C D C':List XA}{H:Hp}{k:Nat}{p:Addr}{o:HO}(w:W (D::OO) H)(hk:OO[k]?=some C)(hp:p∈C.map (·.1))(hp':p∈C'.map (·.1))(hnd:(C'.map (·.1)).Nodup)(hin:∀b∈C'.map (·.1),b∈(C++D).map (·.1))(ht:∀c∈C',upd H p o c.1=some c.2)(hm:∀c∈C',Ef c.2=true):
  W (OO.set k C') (upd H p o)/\Xw (hid H (D::OO)) (hid (upd H p o) (OO.set k C')):=by
 have hlt:k<OO.length:=by
  rcases Nat.lt_or_ge k OO.length with h |h
  ·exact h
  ·rw[List.getElem?_eq_none h] at hk;cases hk
 have h1:=X0 hk
 have h2:=X0 (OO:=OO.set k C') (k:=k) (C:=C') (by simp[hlt])
 rw[set_set] at h2
 have h3:(OO.set k C').flatten.Perm (C'++(OO.set k []).flatten):=by simpa using h2.symm
 have h4:(D::OO).flatten.Perm ((C++D)++(OO.set k []).flatten):=by
  rw[List.flatten_cons]
  refine((by simpa using h1.symm:OO.flatten.Perm (C++(OO.set k []).flatten)).append_left D).trans ?_
  rw[←List.append_assoc]
  exact List.perm_append_comm.append_right _
 have nd2:(((C++D)++(OO.set k []).flatten).map (·.1)).Nodup:=(h4.map _).nodup_iff.mp w.nd
 rw[List.map_append] at nd2
 obtain⟨n1,n2,n3⟩:=List.nodup_append.mp nd2
 refine⟨⟨λc hc=>?_,?_,λc hc=>?_⟩,λb v q=>?_⟩
 ·rcases List.mem_append.mp (h3.mem_iff.mp hc) with hc |hc
  ·exact ht c hc
  ·have hne:c.1≠p:=λe=>n3 p (hin p hp') c.1 (List.mem_map.mpr ⟨c,hc,rfl⟩) e.symm
   rw[Xv hne]
   exact w.tr c (h4.mem_iff.mpr (by simp[hc]))
 ·refine((h3.map _).nodup_iff).mpr ?_
  rw[List.map_append]
  exact List.nodup_append.mpr ⟨hnd,n2,λa ha b hb=>n3 a (hin a ha) b hb⟩
 ·rcases List.mem_append.mp (h3.mem_iff.mp hc) with hc |hc
  ·exact hm c hc
  ·exact w.mu c (h4.mem_iff.mpr (by simp[hc]))
 ·obtain⟨q1,q2⟩:=Yf q
  have hbp:b≠p:=λe=>q2 (by
   rw[e]
   obtain⟨c,hc,rfl⟩:=List.mem_map.mp hp
   exact VC (h4.mem_iff.mpr (by simp[hc])))
  refine ZO (by rw[Xv hbp];exact q1) λz=>q2 ?_
  obtain⟨o',ho'⟩:=GP z
  rcases List.mem_append.mp (h3.mem_iff.mp ho') with hc |hc
  ·obtain⟨c,hc2,e⟩:=List.mem_map.mp (hin b (List.mem_map.mpr ⟨_,hc,rfl⟩))
   rw[←e]
   exact VC (h4.mem_iff.mpr (List.mem_append_left _ hc2))
  ·exact VC (c:=(b,o')) (h4.mem_iff.mpr (by simp[hc]))
theorem E9 {D:List XA}{Cs Cs':List (List XA)}{H:Hp}{k:Nat}{p:Addr}{xs xs':List V}(w:W (D::OO) H)(hk:OO[k]?=some ((p, .lst xs)::Cs.flatten))(hin:∀c∈Cs'.flatten,c∈Cs.flatten++D)(hnd:(Cs'.flatten.map (·.1)).Nodup):
  W (OO.set k ((p, .lst xs')::Cs'.flatten)) (upd H p (.lst xs'))/\Xw (hid H (D::OO)) (hid (upd H p (.lst xs')) (OO.set k ((p, .lst xs')::Cs'.flatten))):=by
 have h1:=X0 hk
 have w3:W [((p,HO.lst xs)::(Cs.flatten++D))++(OO.set k []).flatten] H:=w.of (by
  simp only[List.flatten_cons,List.flatten_nil,List.append_nil]
  refine List.Perm.trans ?_ ((by simpa using h1:(((p,HO.lst xs)::Cs.flatten)++(OO.set k []).flatten).Perm OO.flatten).append_left D)
  rw[←List.append_assoc]
  refine List.Perm.append_right _ ?_
  exact(List.perm_append_comm (l₁:=(p,HO.lst xs)::Cs.flatten) (l₂:=D)))
 have nd:=w3.nd
 simp only[fl,List.flatten_cons,List.flatten_nil,List.append_nil,List.map_append,List.cons_append,List.map_cons] at nd
 have hne:∀c∈Cs'.flatten,c.1≠p:=λc hc e=>by
  refine(List.nodup_cons.mp nd).1 ?_
  rw[←e]
  refine List.mem_append_left _ ?_
  rw[←List.map_append]
  exact List.mem_map.mpr ⟨c,hin c hc,rfl⟩
 refine E5 w hk List.mem_cons_self List.mem_cons_self ?_ ?_ ?_ ?_
 ·rw[List.map_cons,List.nodup_cons]
  refine⟨λz=>?_,hnd⟩
  obtain⟨c,hc,e⟩:=List.mem_map.mp z
  exact hne c hc e
 ·intro b hb
  rcases List.mem_cons.mp hb with rfl |hb
  ·exact List.mem_cons_self
  ·obtain⟨c,hc,rfl⟩:=List.mem_map.mp hb
   rw[List.cons_append,List.map_cons]
   exact List.mem_cons_of_mem _ (List.mem_map.mpr ⟨c,hin c hc,rfl⟩)
 ·intro c hc
  rcases List.mem_cons.mp hc with rfl |hc
  ·exact XL
  ·rw[Xv (hne c hc)]
   exact w3.tr c (by
    rw[List.flatten_cons,List.flatten_nil,List.append_nil]
    exact List.mem_append_left _ (List.mem_cons_of_mem _ (hin c hc)))
 ·intro c hc
  rcases List.mem_cons.mp hc with rfl |hc
  ·rfl
  ·exact w3.mu c (by
    rw[List.flatten_cons,List.flatten_nil,List.append_nil]
    exact List.mem_append_left _ (List.mem_cons_of_mem _ (hin c hc)))
theorem JW {o:OE α}{h:Hp}{p:Addr}{xs:List V}{as:List α}{R:List XA}(q:oL o K h (.ref p) as ((p, .lst xs)::R)):∃Cs,P3 (o K h) xs as Cs/\R=Cs.flatten:=by
 obtain⟨p',xs',Cs,e,q,c⟩:=q
 injection c with c1 c2
 injection c1 with c3 c4
 injection c4 with c5
 subst c5
 exact⟨Cs,q,c2⟩
theorem DJ {as:List α}{i:Int}{a:α}{bs:List α}(h:Qg as i a= .ok bs):∃j,ixN as.length i=some j/\bs=as.set j a:=by
 unfold Qg at h;split at h
 ·cases h;exact⟨_,by assumption,rfl⟩
 ·cases h
theorem DR {as:List α}{i:Int}{a:α}{x:Exc}:Qg as i a≠ .err x:=by unfold Qg;split<;> exact λz=>nomatch z
theorem Q8 {l r m:List XA}(h:(l++r).Perm m)(n:(m.map (·.1)).Nodup):(l.map (·.1)).Nodup:=by
 have:((l++r).map (·.1)).Nodup:=(h.map _).nodup_iff.mpr n
 rw[List.map_append] at this
 exact(List.nodup_append.mp this).1
theorem Gu {Cs:List (List XA)}{j:Nat}{D:List XA}(hj:j<Cs.length):((Cs.set j D).flatten++Cs[j]).Perm (Cs.flatten++D):=by
 have h1:=X0 (OO:=Cs) (k:=j) (C:=Cs[j]) (by simp[hj])
 have h2:=X0 (OO:=Cs.set j D) (k:=j) (C:=D) (by simp[hj])
 rw[set_set] at h2
 have h3:(Cs.set j D).flatten.Perm (D++(Cs.set j []).flatten):=by simpa using h2.symm
 have h4:Cs.flatten.Perm (Cs[j]++(Cs.set j []).flatten):=by simpa using h1.symm
 refine(h3.append_right _).trans (List.Perm.trans ?_ (h4.append_right _).symm)
 refine List.perm_append_comm.trans ((List.perm_append_comm.append_left _).trans ?_)
 rw[List.append_assoc]
theorem Qz {D:List XA}{Cs:List (List XA)}{H:Hp}{k:Nat}{p:Addr}{xs:List V}(w:W (D::OO) H)(hk:OO[k]?=some ((p, .lst xs)::Cs.flatten)):((Cs.flatten++D).map (·.1)).Nodup:=by
 have h1:=X0 hk
 have w3:W [((p,HO.lst xs)::(Cs.flatten++D))++(OO.set k []).flatten] H:=w.of (by
  simp only[List.flatten_cons,List.flatten_nil,List.append_nil]
  refine List.Perm.trans ?_ ((by simpa using h1:(((p,HO.lst xs)::Cs.flatten)++(OO.set k []).flatten).Perm OO.flatten).append_left D)
  rw[←List.append_assoc]
  refine List.Perm.append_right _ ?_
  exact(List.perm_append_comm (l₁:=(p,HO.lst xs)::Cs.flatten) (l₂:=D)))
 have nd:=w3.nd
 simp only[fl,List.flatten_cons,List.flatten_nil,List.append_nil,List.cons_append,List.map_cons] at nd
 have n2:=(List.nodup_cons.mp nd).2
 rw[List.map_append] at n2
 exact(List.nodup_append.mp n2).1
theorem JC {ta ti:TE}{o:OE α}[MonoO o]{m:Rs α}{mi:Rs Int}{f:List α->Rs β}{v:V}{as:List α}{C:List XA}(i k:Nat)(hσ:σ[i]?=some (some v))(hk':OO'[k]?=some C)(h:∀x,S.p x->oL o K x v as C)(he:Ev K Er S OO OO' σ ta o m)
  (hi:∀D,EvB K Er S (D::OO') σ ti Xa mi)
  (hr:∀bs C',Sv Er (S.addO K (oL o) v bs C') (OO'.set k C') σ u Fd (f bs)):Sv Er S OO σ (Qr (FU ta (Ls (QD i) ti B6)) u) Fd (m.bind λa=>mi.bind λj=>(Qg as j a).bind f):=λH D w s P=>
 he.st w s P λa y D' H' w' s' ho P'=>⟨v,hσ,(hi D').st w' s' P' λj z H2 s2 w2 q2 r2 P2=>by
  obtain⟨p,xs,Cs,e,q,c⟩:=h _ q2
  subst c
  have hH:H2 p=some (.lst xs):=w2.tr (p, .lst xs) (by rw[List.flatten_cons];exact List.mem_append_right _ (List.mem_flatten.mpr ⟨_,List.mem_of_getElem? hk',List.mem_cons_self⟩))
  cases es:Qg as j a with
  |bad=>rw[es] at P2;exact P2.elim
  |err x=>exact absurd es DR
  |ok bs=>
   rw[es] at P2
   obtain⟨jj,h1,rfl⟩:=DJ es
   have hjl:jj<as.length:=by
    unfold ixN at h1
    split at h1
    ·split at h1
     ·cases h1;(first|lia|omega)
     ·cases h1
    ·split at h1
     ·cases h1;(first|lia|omega)
     ·cases h1
   have hjC:jj<Cs.length:=by rw[q.len.2];exact hjl
   have hp:=Gu (Cs:=Cs) (j:=jj) (D:=D') hjC
   obtain⟨w3,m3⟩:=E9 (xs':=xs.set jj y) (Cs':=Cs.set jj D') w2 hk' (λc hc=>hp.mem_iff.mp (List.mem_append_left _ hc)) (Q8 hp (Qz w2 hk'))
   refine⟨p,xs,j,jj,e,r2,hH,by rw[q.len.1];exact h1,hr _ _ _ D w3 ⟨S.mono _ _ m3 q2,⟨p,_,_,e,P3.imp (λ_ _ _ z=>MonoO.mono m3 z) (P3.set (MonoO.mono (Xn s2) ho) jj q),rfl⟩⟩ (PZ.tr (fd.tr D) m3 P2)⟩⟩
theorem HR {ta:TE}{o:OE α}[MonoO o]{m:Rs (List α)}{f:List α->Rs β}{v:V}{as:List α}{C:List XA}(i k:Nat)(hσ:σ[i]?=some (some v))(hk:OO[k]?=some C)(hk':OO'[k]?=some C)(h:∀x,S.p x->oL o K x v as C)(he:Ev K Er S OO OO' σ ta (oL o) m)
  (hr:∀bs C',Sv Er (S.addO K (oL o) v (as++bs) C') (OO'.set k C') σ u Fd (f (as++bs))):Sv Er S OO σ (Qr (Jd (tBM K "list" KB (QD i) (XT ta ZQ))) u) Fd (m.bind λbs=>chk (as.length+bs.length<=sizeLine) (f (as++bs))):=λH D w s P=>by
 obtain⟨p,xs,Cs,e,q,c⟩:=h _ s
 subst c
 have hH:H p=some (.lst xs):=w.tr (p, .lst xs) (List.mem_flatten.mpr ⟨_,List.mem_of_getElem? hk,List.mem_cons_self⟩)
 refine⟨v,hσ,by rw[e];exact .inl ⟨rfl,_,SqL.of hH⟩,he.st w s P λbs y D' H' w' s' ho P'=>?_⟩
 obtain⟨hsz,P'⟩:=PZ.chk P'
 subst e
 obtain⟨Cs2,q2,c2⟩:=JW (h _ s')
 obtain⟨p',zs,Ds,e3,q3,c3⟩:=ho
 subst c3
 have hH':H' p=some (.lst xs):=w'.tr (p, .lst xs) (by rw[List.flatten_cons];exact List.mem_append_right _ (List.mem_flatten.mpr ⟨_,List.mem_of_getElem? hk',List.mem_cons_self⟩))
 have hH2:H' p'=some (.lst zs):=w'.tr (p', .lst zs) (by rw[List.flatten_cons];exact List.mem_append_left _ List.mem_cons_self)
 have cn:=Qz w' hk'
 obtain⟨w3,m3⟩:=E9 (xs':=xs++zs) (Cs':=Cs2++Ds) w' hk' (λc hc=>by
   rw[List.flatten_append,List.mem_append] at hc
   rcases hc with hc |hc
   ·rw[c2];exact List.mem_append_left _ hc
   ·exact List.mem_append_right _ (List.mem_cons_of_mem _ hc)) (by
   rw[List.flatten_append, ←c2]
   refine List.Nodup.sublist (List.Sublist.map _ ?_) cn
   exact List.Sublist.append (List.Sublist.refl _) (List.sublist_cons_self _ _))
 refine⟨p,p',xs,zs,rfl,by rw[e3],hH',hH2,by rw[q2.len.1,q3.len.1];exact hsz,?_⟩
 exact hr bs _ _ D w3 ⟨S.mono _ _ m3 s',⟨p,_,_,rfl,P3.imp (λ_ _ _ z=>MonoO.mono m3 z) (q2.app q3),rfl⟩⟩ (PZ.tr (fd.tr D) m3 P')
noncomputable def VQ (as:List α)(i:Int):Rs (α×List α):=chk (-(2^63)<=i/\i<2^63) (match seqIndex? i as.length with
 |none=>.bad
 |some k=>match as[k]? with
  |none=>.bad
  |some a=>.ok (a,as.eraseIdx k))
theorem Do {as:List α}{i:Int}{p:α×List α}(h:VQ as i= .ok p):(-(2^63)<=i/\i<2^63)/\∃k,seqIndex? i as.length=some k/\as[k]?=some p.1/\p.2=as.eraseIdx k:=by
 obtain⟨h1,h2⟩:=Zx h
 refine⟨h1,?_⟩
 split at h2
 ·cases h2
 ·split at h2
  ·cases h2
  ·cases h2;exact⟨_,by assumption,by assumption,rfl⟩
theorem Du {as:List α}{i:Int}{x:Exc}:VQ as i≠ .err x:=by
 unfold VQ chk;split
 ·split
  ·exact λz=>nomatch z
  ·split<;> exact λz=>nomatch z
 ·exact λz=>nomatch z
theorem Paired.erase' {F:α->γ->Prop}:∀{l:List α}{m:List γ} (n:Nat),Paired F l m->Paired F (l.eraseIdx n) (m.eraseIdx n)
 |_,_,_, .nil=>.nil
 |_,_,0, .cons _ t=>t
 |_,_,n+1, .cons r t=>.cons r (Paired.erase' n t)
theorem KI {te ti:TE}{r:Enc α}[MonoE r]{mi:Rs Int}{f:α×List α->Rs β}{v:V}{as:List α}{C:List XA}{D:Ends}{H:Hp}{Q:VK}(i k:Nat)(hσ:σ[i]?=some (some v))(hk:OO[k]?=some C)(h:∀x,S.p x->oL (oF r) K x v as C)(hi:EvB K Er S OO σ ti Xa mi)
  (w:W OO H)(s:S.p (hid H OO))(P:PZ Er (Fd D) (hid H OO) (mi.bind λj=>(VQ as j).bind f))
  (hr:∀a bs y C' H',W (OO.set k C') H'->((S.add K r y a).addO K (oL (oF r)) v bs C').p (hid H' (OO.set k C'))->PZ Er (Fd D) (hid H' (OO.set k C')) (f (a,bs))->Q y H'):tBM K "list" VL (QD i) (XT ti ZQ) σ H Q:=by
 obtain⟨p,xs,Cs,e,q,c⟩:=h _ s
 subst c
 have hH:H p=some (.lst xs):=w.tr (p, .lst xs) (List.mem_flatten.mpr ⟨_,List.mem_of_getElem? hk,List.mem_cons_self⟩)
 refine⟨v,hσ,by rw[e];exact .inl ⟨rfl,_,SqL.of hH⟩,hi.st w s P λj z H' s1 w' s' ho P'=>?_⟩
 subst e
 obtain⟨Cs2,q2,c2⟩:=JW (h _ s')
 obtain⟨pr,hfl⟩:=P3.flat q2
 cases es:VQ as j with
 |bad=>rw[es] at P';exact P'.elim
 |err x=>exact absurd es Du
 |ok pp=>
  rw[es] at P'
  obtain⟨a,bs⟩:=pp
  obtain⟨h1,kk,h2,h3,h4⟩:=Do es
  obtain⟨y,hy,ry⟩:=Paired.getR pr h3
  have w0:W ([]::OO) H':=w'.nil
  have hk0:OO[k]?=some ((p, .lst xs)::([]:List (List XA)).flatten):=by rw[hk,c2,hfl];rfl
  obtain⟨w3,m3⟩:=E9 (D:=[]) (Cs:=[]) (xs':=xs.eraseIdx kk) (Cs':=List.replicate bs.length []) w0 hk0 (λc hc=>by rw[Yk] at hc;cases hc) (by rw[Yk];exact List.nodup_nil)
  rw[YO] at m3
  refine⟨p,xs,j,kk,y,rfl,by rw[show z= .int j from ho],s1 _ _ hH,h1.1,h1.2,by rw[Paired.len pr];exact h2,hy,?_⟩
  have pr2:Paired (r K (hid H' OO)) (xs.eraseIdx kk) bs:=by rw[show bs=as.eraseIdx kk from h4];exact Paired.erase' kk pr
  exact hr a bs y _ _ w3 ⟨⟨S.mono _ _ m3 s',MonoE.mono m3 ry⟩,⟨p,_,_,rfl,(P3.of (Paired.imp2 (λ_ _ z=>MonoE.mono m3 z) pr2)).imp λ_ _ _ z=>z,rfl⟩⟩ (PZ.tr (fd.tr D) m3 P')
theorem Iq {ti:TE}{r:Enc α}[MonoE r]{mi:Rs Int}{f:α×List α->Rs β}{v:V}{as:List α}{C:List XA}(x i k:Nat)(hσ:σ[i]?=some (some v))(hk:OO[k]?=some C)(h:∀x,S.p x->oL (oF r) K x v as C)(hi:EvB K Er S OO σ ti Xa mi)
  (hr:∀a bs y C',Sv Er ((S.add K r y a).addO K (oL (oF r)) v bs C') (OO.set k C') (σ.set x (some y)) u Fd (f (a,bs))):Sv Er S OO σ (Qr (FU (tBM K "list" VL (QD i) (XT ti ZQ)) (Z2 x)) u) Fd (mi.bind λj=>(VQ as j).bind f):=λH D w s P=>
 KI (te:=ti) i k hσ hk h hi w s P λa bs y C' H' w' s' P'=>hr a bs y C' H' D w' s' P'
theorem CT {ti:TE}{r:Enc α}[MonoE r]{mi:Rs Int}{f:List α->List α->Rs β}{v v2:V}{as zs:List α}{C C2:List XA}(i k i2 k2:Nat)(hne:k2≠k)(hσ:σ[i]?=some (some v))(hk:OO[k]?=some C)(h:∀x,S.p x->oL (oF r) K x v as C)
  (hσ2:σ[i2]?=some (some v2))(hk2:OO[k2]?=some C2)(h2:∀x,S.p x->oL (oF r) K x v2 zs C2)(hi:EvB K Er S OO σ ti Xa mi)
  (hr:∀a bs C' C2',Sv Er ((S.addO K (oL (oF r)) v bs C').addO K (oL (oF r)) v2 (zs++[a]) C2') ((OO.set k C').set k2 C2') σ u Fd (f bs (zs++[a]))):
  Sv Er S OO σ (Qr (Jd (tBM K "list" Q4 (QD i2) (XT (tBM K "list" VL (QD i) (XT ti ZQ)) ZQ))) u) Fd (mi.bind λj=>(VQ as j).bind λp=>chk (zs.length<sizeLine) (f p.2 (zs++[p.1]))):=λH D w s P=>by
 obtain⟨p2,xs2,Cs2,e2,q2,c2⟩:=h2 _ s
 subst c2
 have hH2:H p2=some (.lst xs2):=w.tr (p2, .lst xs2) (List.mem_flatten.mpr ⟨_,List.mem_of_getElem? hk2,List.mem_cons_self⟩)
 refine⟨v2,hσ2,by rw[e2];exact .inl ⟨rfl,_,SqL.of hH2⟩,KI (te:=ti) i k hσ hk h hi w s P λa bs y C' H' w' s' P'=>?_⟩
 obtain⟨hsz,P'⟩:=PZ.chk P'
 subst e2
 obtain⟨Cs3,q3,c3⟩:=JW (h2 _ s'.1.1)
 obtain⟨pr,hfl⟩:=P3.flat q3
 have hkk:(OO.set k C')[k2]?=some ((p2,HO.lst xs2)::([]:List (List XA)).flatten):=by
  rw[List.getElem?_set_ne (λe=>hne e.symm),hk2,c3,hfl];rfl
 have hH3:H' p2=some (.lst xs2):=w'.tr (p2, .lst xs2) (List.mem_flatten.mpr ⟨_,List.mem_of_getElem? hkk,List.mem_cons_self⟩)
 obtain⟨w3,m3⟩:=E9 (D:=[]) (Cs:=[]) (xs':=xs2++[y]) (Cs':=List.replicate (zs++[a]).length []) w'.nil hkk (λc hc=>by rw[Yk] at hc;cases hc) (by rw[Yk];exact List.nodup_nil)
 rw[YO] at m3
 refine⟨p2,xs2,y,rfl,rfl,hH3,by rw[Paired.len pr];exact hsz,?_⟩
 refine hr a bs C' _ _ D w3 ⟨⟨S.mono _ _ m3 s'.1.1,(SC.oneO K (oL (oF r)) v bs C').mono _ _ m3 s'.2⟩,⟨p2,_,_,rfl,(P3.of (Paired.app (Paired.imp2 (λ_ _ z=>MonoE.mono m3 z) pr) (.cons (MonoE.mono m3 (show r K _ y a from s'.1.2)) .nil))).imp λ_ _ _ z=>z,rfl⟩⟩ (PZ.tr (fd.tr D) m3 P')
theorem Gn {te:TE}{r:Enc α}{q:Enc γ}[MonoE r][MonoE q]{m:Rs (α×γ)}{f:α×γ->Rs β}(i j:Nat)(he:EvS K Er S OO σ te (rP2 r q) m)
  (hr:∀a v w,Sv Er ((S.add K r v a.1).add K q w a.2) OO ((σ.set i (some v)).set j (some w)) u Fd (f a)):Sv Er S OO σ (Qr (FU te (Hg K 2 (V8 (Z2 i) (V8 (Z2 j) Hv)))) u) Fd (m.bind f):=λH D w s P=>
 he.st w s P λa v H1 s1 w1 q1 r9 P1=>by obtain⟨p,x,y,e,h,h1,h2⟩:=r9;exact⟨p,_,e,SqT.of (XB _ _ h),rfl,x,[y],rfl,y,[],rfl,rfl,hr a x y H1 D w1 ⟨⟨q1,h1⟩,h2⟩ P1⟩
theorem EE {ta tb:TE}{ma mb:Rs Int}(ha:EvB K Er S OO σ ta Xa ma)(hb:EvB K Er S OO σ tb Xa mb):EvB K Er S OO σ (tCB (λxs H Q=>∃ i j:Int,xs=[.int i, .int j]/\Q (.int (if j > i then j else i)) H) (XT ta (XT tb ZQ))) Xa (ma.bind λa=>mb.bind λb=>.ok (max a b)):=λH Q w s P=>
 ha.run w s FB.tr P λa x H1 s1 w1 q1 r1 P1=>hb.run w1 q1 FB.tr P1 λb y H2 s2 w2 q2 r2 P2=>⟨a,b,by rw[show x= .int a from r1,show y= .int b from r2],P2 _ H2 (Xw.refl _) (by show V.int _=V.int _;congr 1;(first|lia|omega))⟩
theorem E6 {ta tb:TE}{ma mb:Rs Int}(ha:EvB K Er S OO σ ta Xa ma)(hb:EvB K Er S OO σ tb Xa mb):EvB K Er S OO σ (tCB (λxs H Q=>∃ i j:Int,xs=[.int i, .int j]/\Q (.int (if j<i then j else i)) H) (XT ta (XT tb ZQ))) Xa (ma.bind λa=>mb.bind λb=>.ok (min a b)):=λH Q w s P=>
 ha.run w s FB.tr P λa x H1 s1 w1 q1 r1 P1=>hb.run w1 q1 FB.tr P1 λb y H2 s2 w2 q2 r2 P2=>⟨a,b,by rw[show x= .int a from r1,show y= .int b from r2],P2 _ H2 (Xw.refl _) (by show V.int _=V.int _;congr 1;(first|lia|omega))⟩
class TyE {α:Type}(r:Enc α)(n:outParam String):Prop where
 ty:∀{K:PySem.W.Frag}{H:Hp}{v:V}{a:α},r K H v a->TyOf K H v (.type n)
instance:TyE Xa "int":=⟨fun {K H v a} h=>by cases(show v= .int a from h);exact .int a⟩
instance:TyE Xt "bool":=⟨fun {K H v a} h=>by cases(show v= .bl a from h);exact .bl a⟩
instance:TyE Yu "str":=⟨fun {K H v a} h=>by cases(show v= .str a from h);exact .str a⟩
instance {r:Enc α}:TyE (rV r) "list":=⟨λr9=>by obtain⟨p,xs,e,q,_⟩:=r9;exact by subst e;exact .lst q⟩
instance {r:Enc α}:TyE (rPL r) "tuple":=⟨λr9=>by obtain⟨p,xs,e,q,_⟩:=r9;exact by subst e;exact .tup q⟩
instance {r:Enc α}{q:Enc γ}:TyE (rP2 r q) "tuple":=⟨λr9=>by obtain⟨p,x,y,e,q,_⟩:=r9;exact by subst e;exact .tup q⟩
instance {r:Enc α}{q:Enc γ}{t:Enc δ}:TyE (rP3 r q t) "tuple":=⟨λr9=>by obtain⟨p,x,y,z,e,q,_⟩:=r9;exact by subst e;exact .tup q⟩
theorem YZ {te:TE}{r:Enc α}{n:String}[z:TyE r n]{m:Rs α}(t:String)(b:Bool)(hk:PySem.W.kitOne K (.type n) (.type t)=some b)(he:EvB K Er S OO σ te r m):
  EvB K Er S OO σ (tCB (λxs H Q=>∃ x n t b,xs=[x, .ty n]/\TyOf K H x t/\PySem.W.kitOne K t (.type n)=some b/\Q (.bl b) H) (XT te (XT (tC (.ty t)) ZQ))) Xt (m.bind λ_=>.ok b):=λH Q w s P=>
 he.run w s FB.tr P λa x H1 s1 w1 q1 r1 P1=>⟨x,t, .type n,b,rfl,z.ty r1,hk,P1 _ H1 (Xw.refl _) rfl⟩
theorem FQ {ta:TE}{ma:Rs Int}(ha:EvB K Er S OO σ ta Xa ma):EvB K Er S OO σ (tCB (λxs H Q=>∃ i:Int,xs=[.int i]/\Q (.int (if i<0 then-i else i)) H) (XT ta ZQ)) Xa (ma.bind λa=>.ok (a.natAbs:Int)):=λH Q w s P=>
 ha.run w s FB.tr P λa x H1 s1 w1 q1 r1 P1=>⟨a,by rw[show x= .int a from r1],P1 _ H1 (Xw.refl _) (by show V.int _=V.int _;congr 1;(first|lia|omega))⟩
end
section
variable {K:PySem.W.Frag}{Er:Exc->Hp->Prop}{S:SC}{OO OO' OO1 OO2:List (List XA)}{σ:St}{α β γ ρ ι δ ε:Type}
variable {Fd:Ends->β->Hp->Prop}[fd:FdOk Fd]{u:TS}
theorem HI (n:Nat)(H:Hp):W (List.replicate n []) H:=⟨λc hc=>(by rw[Yk] at hc;cases hc),(by unfold fl;rw[Yk];exact List.nodup_nil),λc hc=>(by rw[Yk] at hc;cases hc)⟩
theorem Cl (n:Nat)(H:Hp):hid H (List.replicate n [])=H:=by funext b;unfold hid fl;rw[Yk];simp
theorem BD {o:OE ρ}[z:MonoO o]{Q:VK}{b:ρ}{H:Hp}(q:FF K o Q b H):∀v C OO' H',W (C::OO') H'->Xw H (hid H' (C::OO'))->o K (hid H' (C::OO')) v b C->Q v H':=λv C OO' H' w m ho=>by
 have hs:Xw (hid H' (C::OO')) (hid H' [C]):=QA (Xw.refl _) λb hb=>by
  rw[Yh]
  refine List.mem_append_left _ ?_
  simpa[fl] using hb
 exact q v C H' (w.sub (by simp)) (m.trans hs) (z.mono hs ho)
theorem Zj {o:OE ρ}[MonoO o]{t:TS}{m:Rs ρ}{Q:VK}{b:ρ}{H:Hp}{D:Ends}(n:Nat)(h:Sv (λ_ _=>False) S (List.replicate n []) σ t (FTd K o) m)(hs:S.p H)(hm:m= .ok b)(q:FF K o Q b H)(hD:D.rt=Q):t D σ H:=by
 refine h H D (HI n H) (by rw[Cl];exact hs) ?_
 subst hm
 rw[Cl]
 intro v C OO' H' w mm ho
 rw[hD]
 exact BD q v C OO' H' w mm ho
theorem Fy {t:TS}{m:Rs β}(k:Nat)(hr:Sv Er S (OO.set k []) σ t Fd m):Sv Er S OO σ t Fd m:=λH D w s P=>by
 cases hk:OO[k]? with
 |none=>
  rw[List.set_eq_of_length_le (List.getElem?_eq_none_iff.mp hk)] at hr
  exact hr H D w s P
 |some C=>
  have hp:=X0 hk
  have w1:W (C::OO.set k []) H:=w.of hp
  have hs:Xw (hid H OO) (hid H (OO.set k [])):=by
   rw[←Yd hp]
   exact QA (Xw.refl _) λb hb=>by rw[Yh];simp[hb]
  exact hr H D w1.tail (S.mono _ _ hs s) (PZ.tr (fd.tr D) hs P)
noncomputable def FAO {α:Type}(K:PySem.W.Frag)(OO OO':List (List XA))(o:OE α)(Q:List V->Hp->Prop)(as:List α)(H:Hp):Prop:=∀ vs Cs H',Xw H H'->W (Cs.flatten::OO') H'->Xw (hid H OO) (hid H' (Cs.flatten::OO'))->P3 (o K (hid H' (Cs.flatten::OO'))) vs as Cs->Q vs H'
noncomputable def IK {α:Type}(K:PySem.W.Frag)(Er:Exc->Hp->Prop)(S:SC)(OO OO':List (List XA))(σ:St)(t:TA)(o:OE α)(m:Rs (List α)):Prop:=∀ H Q,W OO H->S.p (hid H OO)->PZ Er (FAO K OO OO' o Q) H m->t σ H Q
theorem CZ {o:OE α}:IK K Er S OO OO σ ZQ o (.ok []):=λH Q w s P=>P [] [] H (Xw.refl _) w.nil (by show Xw _ (hid H ([]::OO));rw[YO];exact Xw.refl _) .nil
theorem Da {te:TE}{t:TA}{o:OE α}[z:MonoO o]{m:Rs α}{n:Rs (List α)}(he:Ev K Er S OO OO1 σ te o m)(ht:∀C,IK K Er S (C::OO1) (C::OO2) σ t o n):IK K Er S OO OO2 σ (XT te t) o (m.bind λa=>n.bind λas=>.ok (a::as)):=λH Q w s P=>by
 refine he H _ w s ?_
 cases em:m with
 |bad=>rw[em] at P;exact P
 |err x=>rw[em] at P;exact P
 |ok a=>
  rw[em] at P
  intro v C H1 s1 w1 m1 ho
  refine ht C H1 _ w1 (S.mono _ _ m1 s) ?_
  have P1:PZ Er (FAO K OO OO2 o Q) H (n.bind λas=>.ok (a::as)):=P
  cases en:n with
  |bad=>rw[en] at P1;exact P1
  |err x=>rw[en] at P1;exact λH2 s2=>P1 H2 (s1.trans s2)
  |ok as=>
   rw[en] at P1
   have P1:FAO K OO OO2 o Q (a::as) H:=P1
   intro vs Cs H2 s2 w2 m2 pr
   have pe:((C::Cs).flatten::OO2).flatten.Perm (Cs.flatten::C::OO2).flatten:=by
    simp only[List.flatten_cons]
    rw[←List.append_assoc]
    exact List.perm_append_comm.append_right _
   refine P1 (v::vs) (C::Cs) H2 (s1.trans s2) (w2.of pe) ?_ ?_
   ·rw[Yd pe];exact m1.trans m2
   ·rw[Yd pe];exact .cons (z.mono m2 ho) pr
theorem Ew {t:TA}{o:OE α}[z:MonoO o]{m:Rs (List α)}(h:IK K Er S OO OO σ t o m):Ev K Er S OO OO σ (IQ t) (oL o) (m.bind λas=>chk (as.length<=sizeLine) (.ok as)):=λH Q w s P=>by
 refine h H _ w s ?_
 cases e:m with
 |bad=>rw[e] at P;exact P
 |err x=>rw[e] at P;exact P
 |ok as=>
  rw[e] at P
  obtain⟨hsz,P⟩:=PZ.chk (show PZ Er _ H (chk (as.length<=sizeLine) (.ok as)) from P)
  intro vs Cs H1 s1 w1 m1 p
  exact⟨by rw[p.len.1];exact hsz,Eo w1 m1 s1 p P⟩
class InE {α:Type}[DecidableEq α](r:Enc α):Prop where
 fl:∀{K:PySem.W.Frag}{H:Hp}{x:V}{a:α},r K H x a->Vn x=true
 eq:∀{K:PySem.W.Frag}{H H':Hp}{x y:V}{a b:α},r K H x a->r K H' y b->eqV x y=decide (a=b)
instance:InE Xa:=⟨fun {K H x a} h=>by cases(show x= .int a from h);rfl,fun {K H H' x y a b} h h'=>by
 cases(show x= .int a from h);cases(show y= .int b from h');show(a==b)=_;rw[Cv]⟩
instance:InE Yu:=⟨fun {K H x a} h=>by cases(show x= .str a from h);rfl,fun {K H H' x y a b} h h'=>by
 cases(show x= .str a from h);cases(show y= .str b from h');show(a==b)=_
 rw[Bool.eq_iff_iff];simp⟩
theorem QY [DecidableEq α]{r:Enc α}[z:InE r]{H H':Hp}{x:V}{a:α}(hx:r K H x a):∀{xs:List V}{as:List α},Paired (r K H') xs as->xs.all Vn=true/\inV x xs=decide (a∈as)
 |_,_, .nil=>⟨rfl,by simp[inV]⟩
 |_,_, .cons h t=>by
  obtain⟨h1,h2⟩:=QY hx t
  refine⟨by rw[List.all_cons,h1,z.fl h];rfl,?_⟩
  unfold inV at h2⊢
  rw[List.any_cons,h2,z.eq h hx,Bool.eq_iff_iff,Bool.or_eq_true,decide_eq_true_eq,decide_eq_true_eq,decide_eq_true_eq,List.mem_cons]
  exact or_congr ⟨Eq.symm,Eq.symm⟩ Iff.rfl
theorem HH [DecidableEq α]{ta tb:TE}{r:Enc α}[z:InE r]{ma:Rs α}{mb:Rs (List α)}(ha:EvB K Er S OO σ ta r ma)(hb:EvB K Er S OO σ tb (rV r) mb):EvB K Er S OO σ (tOp (rIn K false) ta tb) Xt (ma.bind λa=>mb.bind λas=>.ok (decide (a∈as))):=λH Q w s P=>
 ha.run w s FB.tr P λa x H1 s1 w1 q1 r1 P1=>hb.run w1 q1 FB.tr P1 λb y H2 s2 w2 q2 ⟨p,xs,e,q,pr⟩ P2=>by
  obtain⟨h1,h2⟩:=QY r1 pr
  exact⟨p,xs,e, .inl (SqL.of q),z.fl r1,h1,P2 _ H2 (Xw.refl _) (by rw[h2];rfl)⟩
theorem KQ [DecidableEq α]{ta tb:TE}{r:Enc α}[z:InE r]{ma:Rs α}{mb:Rs (List α)}(ha:EvB K Er S OO σ ta r ma)(hb:EvB K Er S OO σ tb (rV r) mb):EvB K Er S OO σ (tOp (rIn K true) ta tb) Xt (ma.bind λa=>mb.bind λas=>.ok (!decide (a∈as))):=λH Q w s P=>
 ha.run w s FB.tr P λa x H1 s1 w1 q1 r1 P1=>hb.run w1 q1 FB.tr P1 λb y H2 s2 w2 q2 ⟨p,xs,e,q,pr⟩ P2=>by
  obtain⟨h1,h2⟩:=QY r1 pr
  exact⟨p,xs,e, .inl (SqL.of q),z.fl r1,h1,P2 _ H2 (Xw.refl _) (by rw[h2];rfl)⟩
theorem Cr [DecidableEq α]{ta tb:TE}{r:Enc α}[z:InE r]{ma:Rs α}{mb:Rs (List α)}(ha:EvB K Er S OO σ ta r ma)(hb:EvB K Er S OO σ tb (rPL r) mb):EvB K Er S OO σ (tOp (rIn K true) ta tb) Xt (ma.bind λa=>mb.bind λas=>.ok (!decide (a∈as))):=λH Q w s P=>
 ha.run w s FB.tr P λa x H1 s1 w1 q1 r1 P1=>hb.run w1 q1 FB.tr P1 λb y H2 s2 w2 q2 ⟨p,xs,e,q,pr⟩ P2=>by
  obtain⟨h1,h2⟩:=QY r1 pr
  exact⟨p,xs,e, .inr (SqT.of q),z.fl r1,h1,P2 _ H2 (Xw.refl _) (by rw[h2];rfl)⟩
theorem QZ {ta tb:TE}{r:Enc α}{m:Rs (Option α)}(ha:EvB K Er S OO σ ta (Y0 r) m):EvB K Er S OO σ (tOp (λx y H Q=>y= .non/\Q (.bl (decide (x= .non))) H) ta (tC .non)) Xt (m.bind λa=>.ok a.isNone):=λH Q w s P=>
 ha.run w s FB.tr P λa x H1 s1 w1 q1 r1 P1=>⟨rfl,P1 _ H1 (Xw.refl _) (by
  cases a with
  |none=>rw[show x= .non from r1];rfl
  |some a=>show V.bl _=V.bl _;rw[decide_eq_false r1.1];rfl)⟩
theorem Gx {ta tb:TE}{r:Enc α}{m:Rs (Option α)}(ha:EvB K Er S OO σ ta (Y0 r) m):EvB K Er S OO σ (tOp (λx y H Q=>y= .non/\Q (.bl (!decide (x= .non))) H) ta (tC .non)) Xt (m.bind λa=>.ok a.isSome):=λH Q w s P=>
 ha.run w s FB.tr P λa x H1 s1 w1 q1 r1 P1=>⟨rfl,P1 _ H1 (Xw.refl _) (by
  cases a with
  |none=>rw[show x= .non from r1];rfl
  |some a=>show V.bl _=V.bl _;rw[decide_eq_false r1.1];rfl)⟩
theorem KP {α:Type}[DecidableEq α]{r r':Enc α}{d:Nat}(E:EqOk r d)(h:∀{K:PySem.W.Frag}{H:Hp}{v:V}{a:α},r' K H v a->r K H v a)(m:MonoE r'):EqOk r' d where
 uniq:=λI h1 h2=>E.uniq I (h h1) (h h2)
 eq:=λI rx ry h1 h2 hu=>E.eq I rx ry (h h1) (h h2) hu
 rc:=λI rx ry h1 h2 hu=>E.rc I rx ry (h h1) (h h2) hu
 ne:=λI rx ry h1 h2 hu=>E.ne I rx ry (h h1) (h h2) hu
 keep:=λs q=>m.mono s q
theorem UE {α:Type}[DecidableEq α]{r:Enc α}{d:Nat}[m:MonoE r](E:EqOk r d):EqOk (rV r) (d+1):=KP (BZ E) (λr9=>by obtain⟨a,xs,e,q,p⟩:=r9;exact⟨a,xs,e,SqL.of q,p⟩) inferInstance
theorem Lq {α:Type}[DecidableEq α]{r:Enc α}{d:Nat}[m:MonoE r](E:EqOk r d):EqOk (rPL r) (d+1):=KP (EL E) (λr9=>by obtain⟨a,xs,e,q,p⟩:=r9;exact⟨a,xs,e,SqT.of q,p⟩) inferInstance
theorem Jw {α β:Type}[DecidableEq α][DecidableEq β]{r:Enc α}{q:Enc β}{d:Nat}[m:MonoE r][n:MonoE q](E:EqOk r d)(F:EqOk q d):EqOk (rP2 r q) (d+1):=KP (El E F) (λr9=>by obtain⟨a,x,y,e,q,p⟩:=r9;exact⟨a,x,y,e,SqT.of q,p⟩) inferInstance
end
section
variable {K:PySem.W.Frag}{Er:Exc->Hp->Prop}{S:SC}{OO OO' OO1 OO2:List (List XA)}{σ:St}{α β γ ρ ι δ ε:Type}
variable {Fd:Ends->β->Hp->Prop}[fd:FdOk Fd]{u:TS}
theorem Zy {ta tb:TE}{o:OE α}{q:OE β}[z:MonoO o][y:MonoO q]{ma:Rs α}{mb:Rs β}(ha:Ev K Er S OO OO1 σ ta o ma)(hb:∀C,Ev K Er S (C::OO1) (C::OO2) σ tb q mb):Ev K Er S OO OO2 σ (IM (XT ta (XT tb ZQ))) (oT2 o q) (ma.bind λa=>mb.bind λb=>.ok (a,b)):=λH Q w s P=>by
 refine ha H _ w s ?_
 cases em:ma with
 |bad=>rw[em] at P;exact P
 |err x=>rw[em] at P;exact P
 |ok a=>
  rw[em] at P
  intro v C H1 s1 w1 m1 ho
  refine hb C H1 _ w1 (S.mono _ _ m1 s) ?_
  have P1:PZ Er (FO K OO OO2 (oT2 o q) Q) H (mb.bind λb=>.ok (a,b)):=P
  cases en:mb with
  |bad=>rw[en] at P1;exact P1
  |err x=>rw[en] at P1;exact λH2 s2=>P1 H2 (s1.trans s2)
  |ok b=>
   rw[en] at P1
   have P1:FO K OO OO2 (oT2 o q) Q (a,b) H:=P1
   intro v2 C2 H2 s2 w2 m2 ho2
   refine⟨by show 2<=sizeLine;decide,λp hp=>?_⟩
   have pe:((C++C2)::OO2).flatten.Perm (C2::C::OO2).flatten:=by
    simp only[List.flatten_cons]
    rw[←List.append_assoc]
    exact List.perm_append_comm.append_right _
   have s3:Xw H2 (upd H2 p (.tup [v,v2])):=X1 hp _
   have w3:=(w2.keep s3).of pe
   have m3:Xw (hid H2 (C2::C::OO2)) (hid (upd H2 p (.tup [v,v2])) ((C++C2)::OO2)):=by rw[Yd pe];exact Xn s3
   refine P1 (.ref p) (C++C2) _ (s1.trans (s2.trans s3)) w3 (m1.trans (m2.trans m3)) ⟨p,v,v2,C,C2,rfl,?_,z.mono (m2.trans m3) ho,y.mono m3 ho2,rfl⟩
   rw[Yd pe]
   exact JD w2 hp
theorem UZ:∀{l:List XA}{a b:XA},(l.map (·.1)).Nodup->a∈l->b∈l->a.1=b.1->a=b
 | [],_,_,_,h,_,_=>by cases h
 |c::l,a,b,n,ha,hb,e=>by
  rw[List.map_cons,List.nodup_cons] at n
  cases ha with
  |head=>cases hb with
   |head=>rfl
   |tail _ hb=>exact absurd (List.mem_map.mpr ⟨b,hb,e.symm⟩) n.1
  |tail _ ha=>cases hb with
   |head=>exact absurd (List.mem_map.mpr ⟨a,ha,e⟩) n.1
   |tail _ hb=>exact UZ n.2 ha hb e
theorem JL {Cs:List (List XA)}{k:Nat}{C:List XA}(h:Cs[k]?=some C):∀c∈C,c∈Cs.flatten:=λc hc=>List.mem_flatten.mpr ⟨C,List.mem_of_getElem? h,hc⟩
theorem BO {as:List α}{i:Int}{a:α}(h:atR as i= .ok a):∃k,ixN as.length i=some k/\as[k]?=some a:=by
 have:=Gh h
 unfold atI at this
 cases e:ixN as.length i with
 |none=>rw[e] at this;cases this
 |some k=>rw[e] at this;exact⟨k,rfl,this⟩
theorem KK {r:Enc α}[z:MonoE r]{v:V}{as:List (List α)}{row row':List α}{H:Hp}{p q:Addr}{xs ys ys':List V}{Cs:List (List XA)}{k kk:Nat}(w:W OO H)(hk:OO[k]?=some ((p, .lst xs)::Cs.flatten))(hP:P3 (oL (oF r) K (hid H OO)) xs as Cs)(hrow:as[kk]?=some row)
  (hx:xs[kk]?=some (.ref q))(hq:H q=some (.lst ys))(hcs:Cs[kk]?=some [(q, .lst ys)])(pr:Paired (r K (hid H OO)) ys' row'):
  ∃C',W (OO.set k C') (upd H q (.lst ys'))/\Xw (hid H OO) (hid (upd H q (.lst ys')) (OO.set k C'))/\oL (oL (oF r)) K (hid (upd H q (.lst ys')) (OO.set k C')) (.ref p) (as.set kk row') C':=by
 have hkl:kk<Cs.length:=by
  rcases Nat.lt_or_ge kk Cs.length with h |h
  ·exact h
  ·rw[List.getElem?_eq_none h] at hcs;cases hcs
 have hin:∀c∈(p,HO.lst xs)::Cs.flatten,c∈OO.flatten:=λc hc=>List.mem_flatten.mpr ⟨_,List.mem_of_getElem? hk,hc⟩
 have w0:W ([]::OO) H:=w.nil
 have cn0:=Qz w0 hk
 rw[List.append_nil] at cn0
 have e0:Cs[kk]=[(q, .lst ys)]:=by
  rw[List.getElem?_eq_getElem hkl] at hcs;exact Option.some.inj hcs
 have hp:=Gu (Cs:=Cs) (j:=kk) (D:=[(q,HO.lst ys')]) hkl
 rw[e0] at hp
 have hpm:((Cs.set kk [(q,HO.lst ys')]).flatten.map (·.1)).Perm (Cs.flatten.map (·.1)):=by
  have:=hp.map (·.1)
  simp only[List.map_append,List.map_cons,List.map_nil] at this
  exact(List.perm_append_right_iff _).mp this
 have hpne:p∉Cs.flatten.map (·.1):=by
  have h1:=X0 hk
  have:=(w.of (OO':=((p,HO.lst xs)::Cs.flatten)::OO.set k []) h1).nd
  rw[Yh,List.map_cons,List.cons_append,List.nodup_cons] at this
  exact λz=>this.1 (List.mem_append_left _ z)
 have hqC:q∈Cs.flatten.map (·.1):=List.mem_map.mpr ⟨(q, .lst ys),JL hcs _ (by simp),rfl⟩
 have hpq:p≠q:=λe=>hpne (e▸hqC)
 have hcells:∀c∈(p,HO.lst xs)::(Cs.set kk [(q,HO.lst ys')]).flatten,upd H q (.lst ys') c.1=some c.2/\Ef c.2=true:=λc hc=>by
  rcases List.mem_cons.mp hc with rfl |hc
  ·rw[Xv hpq];exact⟨w.tr _ (hin _ List.mem_cons_self),rfl⟩
  ·obtain⟨D,hD,hcD⟩:=List.mem_flatten.mp hc
   rcases List.mem_or_eq_of_mem_set hD with hD |hD
   ·by_cases hcq:c.1=q
    ·-- a cell at q in another place:then it is this one
     have hc2:c∈(Cs.set kk [(q,HO.lst ys')]).flatten:=hc
     have n1:((Cs.set kk [(q,HO.lst ys')]).flatten.map (·.1)).Nodup:=hpm.nodup_iff.mpr cn0
     have hm:(q,HO.lst ys')∈(Cs.set kk [(q,HO.lst ys')]).flatten:=List.mem_flatten.mpr ⟨[(q, .lst ys')],List.mem_set (by simpa using hkl) _,by simp⟩
     have e1:c=(q,HO.lst ys'):=by
      have:=UZ n1 hc2 hm hcq
      exact this
     rw[e1];exact⟨XL,rfl⟩
    ·rw[Xv hcq]
     have:c∈OO.flatten:=hin c (List.mem_cons_of_mem _ (List.mem_flatten.mpr ⟨D,hD,hcD⟩))
     exact⟨w.tr c this,w.mu c this⟩
   ·rw[hD] at hcD
    have e1:c=(q,HO.lst ys'):=by simpa using hcD
    rw[e1];exact⟨XL,rfl⟩
 have hq':q∈(Cs.set kk [(q,HO.lst ys')]).flatten.map (·.1):=hpm.mem_iff.mpr hqC
 obtain⟨w2,m2⟩:=E5 (C':=(p, .lst xs)::(Cs.set kk [(q,HO.lst ys')]).flatten) (p:=q) (o:=.lst ys') w0 hk (List.mem_cons_of_mem _ hqC) (List.mem_cons_of_mem _ hq') (by
   rw[List.map_cons,List.nodup_cons]
   exact⟨λz=>hpne (hpm.mem_iff.mp z),hpm.nodup_iff.mpr cn0⟩) (λb hb=>by
   rw[List.append_nil]
   rcases List.mem_cons.mp hb with rfl |hb
   ·exact List.mem_cons_self
   ·exact List.mem_cons_of_mem _ (hpm.mem_iff.mp hb)) (λc hc=>(hcells c hc).1) λc hc=>(hcells c hc).2
 rw[YO] at m2
 have e3:xs.set kk (.ref q)=xs:=by
  apply List.ext_getElem?
  intro n
  by_cases hn:n=kk
  ·subst hn
   rw[hx,List.getElem?_set_self (by
    rcases Nat.lt_or_ge n xs.length with h |h
    ·exact h
    ·rw[List.getElem?_eq_none h] at hx;cases hx)]
  ·rw[List.getElem?_set_ne (λe=>hn e.symm)]
 refine⟨_,w2,m2,⟨p,xs,Cs.set kk [(q,HO.lst ys')],rfl,?_,rfl⟩⟩
 have:=P3.set (F:=oL (oF r) K (hid (upd H q (.lst ys')) (OO.set k ((p, .lst xs)::(Cs.set kk [(q,HO.lst ys')]).flatten)))) (a:=V.ref q) (b:=row') (c:=[(q,HO.lst ys')])
  ⟨q,ys',List.replicate row'.length [],rfl,(P3.of (Paired.imp2 (λ_ _ h=>z.mono m2 h) pr)).imp λ_ _ _ h=>h,by rw[Yk]⟩ kk (P3.imp (λ_ _ _ h=>MonoO.mono m2 h) hP)
 rw[e3] at this
 exact this
theorem Uw {r:Enc α}{h:Hp}{as:List (List α)}{xs:List V}{Cs:List (List XA)}{kk:Nat}{row:List α}(q:P3 (oL (oF r) K h) xs as Cs)(hrow:as[kk]?=some row):∃q0 ys,xs[kk]?=some (.ref q0)/\Cs[kk]?=some [(q0, .lst ys)]/\Paired (r K h) ys row:=by
 obtain⟨x,c,h1,h2,p,ys,Ds,e,h3,h4⟩:=q.get hrow
 obtain⟨h5,h6⟩:=P3.flat h3
 rw[h6] at h4
 exact⟨p,ys,by rw[h1,e],by rw[h2,h4],h5⟩
theorem VE {F:V->α->Prop}{y:V}{a:α}(r:F y a):∀{l:List V}{m:List α} (i:Nat),Paired F l m->Paired F (l.set i y) (m.set i a)
 |_,_,_, .nil=>.nil
 |_,_,0, .cons _ t=>.cons r t
 |_,_,i+1, .cons q t=>.cons q (VE r i t)
theorem Uk {ta ti:TE}{r:Enc α}[z:MonoE r]{m:Rs α}{mi:Rs Int}{f:List (List α)->Rs β}{v:V}{as:List (List α)}{C:List XA}(i k:Nat)(hσ:σ[i]?=some (some v))(hk:OO[k]?=some C)(h:∀x,S.p x->oL (oL (oF r)) K x v as C)(he:EvS K Er S OO σ ta r m)
  (hi:EvB K Er S OO σ ti Xa mi)
  (hr:∀bs C',Sv Er (S.addO K (oL (oL (oF r))) v bs C') (OO.set k C') σ u Fd (f bs)):
  Sv Er S OO σ (Qr (Jd (tBM K "list" Q4 (tOp (BS K) (QD i) ti) (XT ta ZQ))) u) Fd (mi.bind λx=>(atR as x).bind λrow=>m.bind λa=>chk (row.length<sizeLine) ((Qg as x (row++[a])).bind f)):=λH D w s P=>
 ⟨v,hσ,hi.st w s P λx vx H2 s2 w2 q2 r2 P2=>by
  cases ea:atR as x with
  |bad=>rw[ea] at P2;exact P2.elim
  |err ex=>exact absurd ea U7
  |ok row=>
   rw[ea] at P2
   obtain⟨kk,hkk,hrow⟩:=BO ea
   obtain⟨p,xs,Cs,e,q,c⟩:=h _ q2
   subst c e
   obtain⟨q0,ys,g1,g2,g3⟩:=Uw q hrow
   have hin:∀c∈(p,HO.lst xs)::Cs.flatten,c∈OO.flatten:=λc hc=>List.mem_flatten.mpr ⟨_,List.mem_of_getElem? hk,hc⟩
   have hH:H2 p=some (.lst xs):=w2.tr (p, .lst xs) (hin _ List.mem_cons_self)
   have hq0:H2 q0=some (.lst ys):=w2.tr (q0, .lst ys) (hin _ (List.mem_cons_of_mem _ (JL g2 _ (by simp))))
   refine⟨p,xs,x, .ref q0,rfl,r2,SqL.of hH,by unfold atI;rw[q.len.1,hkk];exact g1, .inl ⟨rfl,_,SqL.of hq0⟩,he.st w2 q2 (f:=λa=>chk (row.length<sizeLine) ((Qg as x (row++[a])).bind f)) P2 λa va H3 s3 w3 q3 r3 P3'=>?_⟩
   obtain⟨hsz,P3'⟩:=PZ.chk P3'
   have P4:PZ Er (Fd D) (hid H3 OO) (f (as.set kk (row++[a]))):=by
    have e5:Qg as x (row++[a])= .ok (as.set kk (row++[a])):=by unfold Qg;rw[hkk]
    rw[e5] at P3'
    exact P3'
   have m3:=Xn (OO:=OO) s3
   obtain⟨C',w4,m4,o4⟩:=KK (ys':=ys++[va]) (row':=row++[a]) (v:=.ref p) w3 hk (P3.imp (λ_ _ _ h=>MonoO.mono m3 h) q) hrow g1 (s3 _ _ hq0) g2 (Paired.app (Paired.imp2 (λ_ _ h=>z.mono m3 h) g3) (.cons r3 .nil))
   exact⟨q0,ys,va,rfl,rfl,s3 _ _ hq0,by rw[Paired.len g3];exact hsz,hr _ C' _ D w4 ⟨S.mono _ _ m4 q3,o4⟩ (PZ.tr (fd.tr D) m4 P4)⟩⟩
theorem Ly {H H':Hp}{C D:List XA}{k:Nat}(w:W OO H)(hk:OO[k]?=some C)(s:Xw H H')(w':W (D::OO.set k []) H')(m:Xw (hid H (OO.set k [])) (hid H' (D::OO.set k []))):
  W (D::OO) H'/\Xw (hid H OO) (hid H' (D::OO))/\Jy (hid H' (D::OO.set k [])) (hid H' (D::OO)):=by
 have hp:=X0 hk
 have wk:W (C::OO.set k []) H:=w.of hp
 have hC:∀c∈C,hid H (OO.set k []) c.1=some c.2:=λc hc=>ZO (wk.cell c hc) (by
  have:=wk.nd
  rw[Yh] at this
  exact λhb=>(List.nodup_append.mp this).2.2 c.1 (List.mem_map.mpr ⟨c,hc,rfl⟩) c.1 hb rfl)
 have hC':∀c∈C,H' c.1=some c.2/\c.1∉fl (D::OO.set k []):=λc hc=>Yf (m _ _ (hC c hc))
 have w2:W (C::D::OO.set k []) H':=by
  refine⟨λc hc=>?_,?_,λc hc=>?_⟩
  ·rw[List.flatten_cons,List.mem_append] at hc
   exact hc.elim (λhc=>(hC' c hc).1) λhc=>w'.tr c hc
  ·rw[Yh]
   refine List.nodup_append.mpr ⟨?_,w'.nd,λa ha b hb e=>?_⟩
   ·have:=wk.nd
    rw[Yh] at this
    exact(List.nodup_append.mp this).1
   ·obtain⟨c,hc,rfl⟩:=List.mem_map.mp ha
    subst e
    exact(hC' c hc).2 hb
  ·rw[List.flatten_cons,List.mem_append] at hc
   exact hc.elim (λhc=>wk.mu c (by simp[hc])) λhc=>w'.mu c hc
 have pe:(D::OO).flatten.Perm (C::D::OO.set k []).flatten:=by
  simp only[List.flatten_cons]
  refine List.Perm.trans (List.Perm.append_left D (by simpa using hp.symm:OO.flatten.Perm (C++(OO.set k []).flatten))) ?_
  rw[←List.append_assoc, ←List.append_assoc]
  exact List.perm_append_comm.append_right _
 have w3:=w2.of pe
 refine⟨w3,λb u q=>?_,λb u q i=>w3.i b u (Yf q).1 i⟩
 obtain⟨q1,q2⟩:=Yf q
 have q3:hid H (OO.set k []) b=some u:=ZO q1 λz=>q2 ((JY hp b).mp (by rw[Yh];simp[z]))
 obtain⟨q4,q5⟩:=Yf (m _ _ q3)
 refine ZO q4 λz=>?_
 have z2:=(JY pe b).mp z
 rw[Yh,List.mem_append] at z2
 rcases z2 with z2 |z2
 ·exact q2 ((JY hp b).mp (by rw[Yh];exact List.mem_append_left _ z2))
 ·exact q5 z2
theorem IW {r1:Enc γ}{o1:OE γ}[z:FrzC o1 r1][MonoE r1]{H:Hp}{v:V}{a:γ}{C:List XA}{k:Nat}(w:W OO H)(hk:OO[k]?=some C)(s:S.p (hid H OO))(h:∀x,S.p x->o1 K x v a C):
  W (OO.set k []) H/\(S.add K r1 v a).p (hid H (OO.set k [])):=by
 have hp:=X0 hk
 have wk:W (C::OO.set k []) H:=w.of hp
 have hs:Xw (hid H OO) (hid H (OO.set k [])):=by
  rw[←Yd hp]
  exact QA (Xw.refl _) λb hb=>by rw[Yh];simp[hb]
 refine⟨wk.tail,S.mono _ _ hs s,z.frz (h _ s) hs λc hc=>ZO (wk.cell c hc) ?_⟩
 have:=wk.nd
 rw[Yh] at this
 exact λhb=>(List.nodup_append.mp this).2.2 c.1 (List.mem_map.mpr ⟨c,hc,rfl⟩) c.1 hb rfl
theorem Eb {te:TE}{o:OE α}[y:FlatO o]{r1:Enc γ}{o1:OE γ}[FrzC o1 r1][MonoE r1]{m:Rs α}{v:V}{a:γ}{C:List XA}(k:Nat)(hk:OO[k]?=some C)(h:∀x,S.p x->o1 K x v a C)(he:Ev K Er (S.add K r1 v a) (OO.set k []) (OO.set k []) σ te o m):Ev K Er S OO OO σ te o m:=λH Q w s P=>by
 obtain⟨w1,s1⟩:=IW (r1:=r1) w hk s h
 refine he H Q w1 s1 (P.imp λb _ hb v' D H' s' w' m' ho=>?_)
 obtain⟨w3,m3,i3⟩:=Ly w hk s' w' m'
 exact hb v' D H' s' w3 m3 (y.flat i3 ho)
theorem ZB (K:PySem.W.Frag)(T:String):PySem.W.kitOne K (.type T) (.type T)=some true:=by
 unfold PySem.W.kitOne
 rw[if_pos (beq_self_eq_true _)]
theorem UO (K:PySem.W.Frag):PySem.W.kitOne K (.type "int") (.type "bool")=some false:=by
 first
  |rfl
  |decide+kernel
  | (unfold PySem.W.kitOne PySem.W.kitCls;rfl)
end
section
variable {K:PySem.W.Frag}{Er:Exc->Hp->Prop}{S:SC}{OO OO' OO1 OO2:List (List XA)}{σ:St}{α β γ ρ ι δ ε:Type}
variable {Fd:Ends->β->Hp->Prop}[fd:FdOk Fd]{u:TS}
noncomputable def BQ:Option α->Rs α
 |some a=>.ok a
 |none=>.bad
theorem DL {te:TE}{r:Enc α}{m:Rs (Option α)}(he:EvB K Er S OO σ te (Y0 r) m):EvB K Er S OO σ te r (m.bind BQ):=λH Q w s P=>by
 refine he H Q w s ?_
 cases m with
 |bad=>exact P
 |err x=>exact P
 |ok a=>
  cases a with
  |none=>exact P.elim
  |some a=>exact λv H' s' hr=>P v H' s' hr.2
theorem Vm {r:Enc α}{K:PySem.W.Frag}{h:Hp}{v:V}{a:List α}{C:List XA}(q:oF (rPL r) K h v a C):v≠ .non:=by
 obtain⟨_,p,x,e,_⟩:=q
 rw[e];exact λz=>nomatch z
end
section
variable {K:PySem.W.Frag}{Er:Exc->Hp->Prop}{S:SC}{OO OO' OO1 OO2:List (List XA)}{σ:St}{α β γ ρ ι δ ε:Type}
variable {α1 α2 α3 α4 α5:Type}
noncomputable def rP4 (r1:Enc α1)(r2:Enc α2)(r3:Enc α3)(r4:Enc α4):Enc (α1×α2×α3×α4):=λK H v p=>∃ a x1 x2 x3 x4,v= .ref a/\H a=some (.tup [x1,x2,x3,x4])/\r1 K H x1 p.1/\r2 K H x2 p.2.1/\r3 K H x3 p.2.2.1/\r4 K H x4 p.2.2.2
instance {r1:Enc α1}{r2:Enc α2}{r3:Enc α3}{r4:Enc α4}[m1:MonoE r1][m2:MonoE r2][m3:MonoE r3][m4:MonoE r4]:MonoE (rP4 r1 r2 r3 r4):=⟨λs r9=>by obtain⟨a,x1,x2,x3,x4,e,h,p1,p2,p3,p4⟩:=r9;exact⟨a,x1,x2,x3,x4,e,s _ _ h,m1.mono s p1,m2.mono s p2,m3.mono s p3,m4.mono s p4⟩⟩
instance {r1:Enc α1}{r2:Enc α2}{r3:Enc α3}{r4:Enc α4}[m1:FlatE r1][m2:FlatE r2][m3:FlatE r3][m4:FlatE r4]:FlatE (rP4 r1 r2 r3 r4):=⟨λs r9=>by obtain⟨a,x1,x2,x3,x4,e,h,p1,p2,p3,p4⟩:=r9;exact⟨a,x1,x2,x3,x4,e,s _ _ h rfl,m1.flat s p1,m2.flat s p2,m3.flat s p3,m4.flat s p4⟩⟩
instance {r1:Enc α1}{r2:Enc α2}{r3:Enc α3}{r4:Enc α4}:TyE (rP4 r1 r2 r3 r4) "tuple":=⟨λr9=>by obtain⟨p,x1,x2,x3,x4,e,q,_⟩:=r9;exact by subst e;exact .tup q⟩
noncomputable def rP5 (r1:Enc α1)(r2:Enc α2)(r3:Enc α3)(r4:Enc α4)(r5:Enc α5):Enc (α1×α2×α3×α4×α5):=λK H v p=>∃ a x1 x2 x3 x4 x5,v= .ref a/\H a=some (.tup [x1,x2,x3,x4,x5])/\r1 K H x1 p.1/\r2 K H x2 p.2.1/\r3 K H x3 p.2.2.1/\r4 K H x4 p.2.2.2.1/\r5 K H x5 p.2.2.2.2
instance {r1:Enc α1}{r2:Enc α2}{r3:Enc α3}{r4:Enc α4}{r5:Enc α5}[m1:MonoE r1][m2:MonoE r2][m3:MonoE r3][m4:MonoE r4][m5:MonoE r5]:MonoE (rP5 r1 r2 r3 r4 r5):=⟨λs r9=>by obtain⟨a,x1,x2,x3,x4,x5,e,h,p1,p2,p3,p4,p5⟩:=r9;exact⟨a,x1,x2,x3,x4,x5,e,s _ _ h,m1.mono s p1,m2.mono s p2,m3.mono s p3,m4.mono s p4,m5.mono s p5⟩⟩
instance {r1:Enc α1}{r2:Enc α2}{r3:Enc α3}{r4:Enc α4}{r5:Enc α5}[m1:FlatE r1][m2:FlatE r2][m3:FlatE r3][m4:FlatE r4][m5:FlatE r5]:FlatE (rP5 r1 r2 r3 r4 r5):=⟨λs r9=>by obtain⟨a,x1,x2,x3,x4,x5,e,h,p1,p2,p3,p4,p5⟩:=r9;exact⟨a,x1,x2,x3,x4,x5,e,s _ _ h rfl,m1.flat s p1,m2.flat s p2,m3.flat s p3,m4.flat s p4,m5.flat s p5⟩⟩
instance {r1:Enc α1}{r2:Enc α2}{r3:Enc α3}{r4:Enc α4}{r5:Enc α5}:TyE (rP5 r1 r2 r3 r4 r5) "tuple":=⟨λr9=>by obtain⟨p,x1,x2,x3,x4,x5,e,q,_⟩:=r9;exact by subst e;exact .tup q⟩
theorem FW {ta:TE}{m:Rs (Int×Int)}(ha:EvB K Er S OO σ ta (rP2 Xa Xa) m):EvB K Er S OO σ ta (rPL Xa) (m.bind λp=>.ok [p.1,p.2]):=λH Q w s P=>
 ha.run w s FB.tr P λa x H1 s1 w1 q1 r9 P1=>by obtain⟨p,x1,x2,e,q,h1,h2⟩:=r9;exact P1 _ H1 (Xw.refl _) ⟨p,_,e,q, .cons h1 (.cons h2 .nil)⟩
theorem GH {te:TE}{tl th:TO}{r:Enc α}[z:MonoE r]{m:Rs (List α)}{ml mh:Rs (Option Int)}(he:EvB K Er S OO σ te (rPL r) m)(hl:EvP Er S OO σ tl ml)(hh:EvP Er S OO σ th mh):
  EvB K Er S OO σ (tSl (Lr K) te tl th) (rPL r) (m.bind λas=>ml.bind λlo=>mh.bind λhi=>chk (¬(HT.sIx as.length 0 lo=0/\HT.sIx as.length as.length hi=as.length)) (.ok (Uc as lo hi))):=λH Q w s P=>
 he.run w s FB.tr P λas x H1 s1 w1 q1 ⟨p,xs,e,q,pr⟩ P1=>hl.run w1 q1 FB.tr P1 λlo H2 s2 w2 q2 P2=>hh.run w2 q2 FB.tr P2 λhi H3 s3 w3 q3 P3'=>by
  obtain⟨hn,P3'⟩:=PZ.chk P3'
  have pr2:=Jf (Paired.imp2 (G:=r K H3) (λ_ _ h=>z.mono (s2.trans s3) h) pr) lo hi
  exact⟨p,xs,e,SqT.of (s3 _ _ (s2 _ _ q)),by rw[Paired.len pr];exact hn,λa ha=>P3' _ _ (X1 ha _) ⟨a,_,rfl,XL,Paired.imp2 (λ_ _ h=>z.mono (X1 ha _) h) pr2⟩⟩
noncomputable def rDP {α:Type}(r:Enc α)(K:PySem.W.Frag)(H:Hp)(kv:Key×V)(kx:Int×α):Prop:=kv.1= .inl kx.1/\r K H kv.2 kx.2
noncomputable def rD {α:Type}(r:Enc α):Enc (List (Int×α)):=λK H v d=>∃ p kvs,v= .ref p/\H p=some (.dK kvs)/\Paired (rDP r K H) kvs d
noncomputable def oD {α:Type}(r:Enc α):OE (List (Int×α)):=λK h v d C=>∃ p kvs,v= .ref p/\Paired (rDP r K h) kvs d/\C=[(p, .dK kvs)]
instance {r:Enc α}[m:MonoE r]:MonoE (rD r):=⟨λs r9=>by obtain⟨p,kvs,e,q,pr⟩:=r9;exact⟨p,kvs,e,s _ _ q,Paired.imp2 (λ_ _ z=>⟨z.1,m.mono s z.2⟩) pr⟩⟩
instance {r:Enc α}[m:MonoE r]:MonoO (oD r):=⟨λs r9=>by obtain⟨p,kvs,e,pr,c⟩:=r9;exact⟨p,kvs,e,Paired.imp2 (λ_ _ z=>⟨z.1,m.mono s z.2⟩) pr,c⟩⟩
instance {r:Enc α}[m:FlatE r]:FlatO (oD r):=⟨λs r9=>by obtain⟨p,kvs,e,pr,c⟩:=r9;exact⟨p,kvs,e,Paired.imp2 (λ_ _ z=>⟨z.1,m.flat s z.2⟩) pr,c⟩⟩
instance {r:Enc α}[m:MonoE r]:FrzC (oD r) (rD r):=⟨λr9 s hc=>by obtain⟨p,kvs,e,pr,c⟩:=r9;exact⟨p,kvs,e,hc (p, .dK kvs) (by rw[c];simp),Paired.imp2 (λ_ _ z=>⟨z.1,m.mono s z.2⟩) pr⟩⟩
noncomputable def Yw (d:List (Int×α))(k:Int):Option α:=(d.find? λkv=>decide (kv.1=k)).map (·.2)
noncomputable def Q1 (d:List (Int×α))(k:Int)(v:α):List (Int×α):=if(d.any λkv=>decide (kv.1=k))=true then d.map (λkv=>if kv.1=k then(kv.1,v) else kv) else d++[(k,v)]
noncomputable def Vx (d:List (Int×α))(k:Int):Rs α:=BQ (Yw d k)
theorem ZW {r:Enc α}{H:Hp}{k:Int}:∀{kvs:List (Key×V)}{d:List (Int×α)},Paired (rDP r K H) kvs d->(∀a,Yw d k=some a->∃v,Kh kvs (.inl k)=some v/\r K H v a)/\(Kh kvs (.inl k)).isSome=(Yw d k).isSome
 |_,_, .nil=>⟨λa h=>(by cases h),rfl⟩
 |kv::kvs,kx::d, .cons h t=>by
  obtain⟨h1,h2⟩:=ZW (k:=k) t
  by_cases e:kx.1=k
  ·have e2:kv.1= .inl k:=by rw[h.1,e]
   rw[JA e2]
   have e3:Yw (kx::d) k=some kx.2:=by simp[Yw,List.find?_cons,e]
   rw[e3]
   exact⟨λa ha=>by cases ha;exact⟨_,rfl,h.2⟩,rfl⟩
  ·have e2:¬kv.1= .inl k:=by rw[h.1];exact λz=>e (Sum.inl.inj z)
   rw[JB e2]
   have e3:Yw (kx::d) k=Yw d k:=by simp[Yw,List.find?_cons,e]
   rw[e3]
   exact⟨h1,h2⟩
theorem VU {r:Enc α}{H:Hp}{k:Int}:∀{kvs:List (Key×V)}{d:List (Int×α)},Paired (rDP r K H) kvs d->(kvs.any λkv=>decide (kv.1= .inl k))=d.any λkx=>decide (kx.1=k)
 |_,_, .nil=>rfl
 |kv::kvs,kx::d, .cons h t=>by
  rw[List.any_cons,List.any_cons,VU t,h.1]
  congr 1
  rw[Bool.eq_iff_iff];simp
theorem Ve {r:Enc α}{H:Hp}{k:Int}{v:V}{a:α}(hv:r K H v a){kvs:List (Key×V)}{d:List (Int×α)}(h:Paired (rDP r K H) kvs d):Paired (rDP r K H) (Vh kvs (.inl k) v) (Q1 d k a):=by
 unfold Vh Q1
 rw[VU h]
 by_cases e:(d.any λkx=>decide (kx.1=k))=true
 ·rw[if_pos e,if_pos e]
  clear e
  induction h with
  |nil=>exact .nil
  | @cons kv kx l m h t ih=>
   refine .cons ?_ ih
   show rDP r K H (if kv.1= .inl k then(kv.1,v) else kv) (if kx.1=k then(kx.1,a) else kx)
   by_cases e:kx.1=k
   ·rw[if_pos (show kv.1= .inl k by rw[h.1,e]),if_pos e];exact⟨h.1,hv⟩
   ·rw[if_neg (show ¬kv.1= .inl k by rw[h.1];exact λz=>e (Sum.inl.inj z)),if_neg e];exact h
 ·rw[if_neg e,if_neg e]
  exact Paired.app h (.cons ⟨rfl,hv⟩ .nil)
theorem Kk {r:Enc α}:Ev K Er S OO OO σ Bt (oD r) (.ok []):=λH Q w s P=>λp hp=>P (.ref p) [(p, .dK [])] _ (X1 hp _) (w.new hp rfl) (Q5 hp) ⟨p,[],rfl, .nil,rfl⟩
theorem Up {td ty:TE}{r:Enc α}[z:MonoE r]{md:Rs (List (Int×α))}{mk:Rs Int}(hd:EvB K Er S OO σ td (rD r) md)(hk:EvB K Er S OO σ ty Xa mk):EvB K Er S OO σ (HU td ty) r (md.bind λd=>mk.bind λk=>Vx d k):=λH Q w s P=>
 hd.run w s FB.tr P λd x H1 s1 w1 q1 ⟨p,kvs,e,q,pr⟩ P1=>hk.run w1 q1 FB.tr P1 λk y H2 s2 w2 q2 r2 P2=>by
  cases eg:Yw d k with
  |none=>rw[Vx,eg] at P2;exact P2.elim
  |some a=>
   rw[Vx,eg] at P2
   obtain⟨v,hv,rv⟩:=(ZW (k:=k) pr).1 a eg
   exact⟨p,v,e, .inl ⟨kvs, .inl k, .inl (s2 _ _ q),r2,hv.symm⟩,P2 _ H2 (Xw.refl _) (z.mono s2 rv)⟩
theorem Ed {td ty:TE}{r:Enc α}{md:Rs (List (Int×α))}{mk:Rs Int}(hk:EvB K Er S OO σ ty Xa mk)(hd:EvB K Er S OO σ td (rD r) md):EvB K Er S OO σ (LK ty td) Xt (mk.bind λk=>md.bind λd=>.ok (Yw d k).isSome):=λH Q w s P=>
 hk.run w s FB.tr P λk y H1 s1 w1 q1 r1 P1=>hd.run w1 q1 FB.tr P1 λd x H2 s2 w2 q2 r9 P2=>by obtain⟨p,kvs,e,q,pr⟩:=r9;exact⟨p,Kh kvs (.inl k),e, .inl ⟨kvs, .inl k, .inl q,r1,rfl⟩,P2 _ H2 (Xw.refl _) (by rw[(ZW (k:=k) pr).2];rfl)⟩
theorem Ue {td ty:TE}{r:Enc α}{md:Rs (List (Int×α))}{mk:Rs Int}(hk:EvB K Er S OO σ ty Xa mk)(hd:EvB K Er S OO σ td (rD r) md):EvB K Er S OO σ (FI ty td) Xt (mk.bind λk=>md.bind λd=>.ok (!(Yw d k).isSome)):=λH Q w s P=>
 hk.run w s FB.tr P λk y H1 s1 w1 q1 r1 P1=>hd.run w1 q1 FB.tr P1 λd x H2 s2 w2 q2 r9 P2=>by obtain⟨p,kvs,e,q,pr⟩:=r9;exact⟨p,Kh kvs (.inl k),e, .inl ⟨kvs, .inl k, .inl q,r1,rfl⟩,P2 _ H2 (Xw.refl _) (by rw[(ZW (k:=k) pr).2];rfl)⟩
variable {Fd:Ends->β->Hp->Prop}[fd:FdOk Fd]{u:TS}
theorem Ko {tv ty:TE}{r:Enc α}[z:MonoE r]{mv:Rs α}{mk:Rs Int}{f:List (Int×α)->Rs β}{v:V}{d:List (Int×α)}{C:List XA}(i k:Nat)(hσ:σ[i]?=some (some v))(hk:OO[k]?=some C)(h:∀x,S.p x->oD r K x v d C)(hv:EvS K Er S OO σ tv r mv)(hy:EvB K Er S OO σ ty Xa mk)
  (hr:∀d' C',Sv Er (S.addO K (oD r) v d' C') (OO.set k C') σ u Fd (f d')):Sv Er S OO σ (Qr (HF (QD i) ty tv) u) Fd (mv.bind λa=>mk.bind λn=>chk (d.length<sizeLine) (f (Q1 d n a))):=λH D w s P=>
 hv.st w s P λa va H1 s1 w1 q1 r1 P1=>⟨v,hσ,hy.st w1 q1 P1 λn vn H2 s2 w2 q2 r2 P2=>by
  obtain⟨hsz,P2⟩:=PZ.chk P2
  obtain⟨p,kvs,e,pr,c⟩:=h _ q2
  subst c e
  have hH:H2 p=some (.dK kvs):=w2.tr (p, .dK kvs) (List.mem_flatten.mpr ⟨_,List.mem_of_getElem? hk,by simp⟩)
  obtain⟨w3,m3⟩:=E5 (D:=[]) (C':=[(p, .dK (Vh kvs (.inl n) va))]) (p:=p) (o:=.dK (Vh kvs (.inl n) va)) w2.nil hk (by simp) (by simp) (by simp) (λb hb=>by simpa using hb) (λc hc=>by
   have:c=(p, .dK (Vh kvs (.inl n) va)):=by simpa using hc
   rw[this];exact XL) (λc hc=>by
   have:c=(p, .dK (Vh kvs (.inl n) va)):=by simpa using hc
   rw[this];rfl)
  rw[YO] at m3
  refine⟨p,_,rfl, .inl ⟨kvs, .inl n,hH,r2,by rw[Paired.len pr];exact hsz,rfl⟩,?_⟩
  exact hr _ _ _ D w3 ⟨S.mono _ _ m3 q2,⟨p,_,rfl,Ve (z.mono ((Xn s2).trans m3) r1) (Paired.imp2 (λ_ _ h=>⟨h.1,z.mono m3 h.2⟩) pr),rfl⟩⟩ (PZ.tr (fd.tr D) m3 P2)⟩
end
theorem YB.ex {P:Program}{w:World}{H:Hp}{h:Heap}{a:Addr}{o:HO}(x:YB P w H h a o):∃u,h.get? a=some u:=by
 cases o with
 |lst xs=>obtain⟨_,_,_,_,e⟩:=x;exact⟨_,e⟩
 |tup xs=>obtain⟨_,_,_,p⟩:=x;obtain⟨o,e,_⟩:=p;exact⟨_,e⟩
 |dK kvs=>obtain⟨_,_,_,_,o,_,_,e,_⟩:=x;exact⟨_,e⟩
 |dT kvs=>obtain⟨_,_,_,_,o,_,_,e,_⟩:=x;exact⟨_,e⟩
 |set S n=>obtain⟨o,_,_,_,e,_⟩:=x;exact⟨_,e⟩
 |ins C dx fs=>obtain⟨_,_,_,e,_⟩:=x;exact⟨_,e⟩
 |own y=>exact x
 |xd fs=>obtain⟨_,⟨_,_,_,e,_⟩,_⟩:=x;exact⟨_,e⟩
 |rng lo hi=>obtain⟨_,_,_,e⟩:=x;exact⟨_,e⟩
 |frz ob u=>exact⟨_,x.1⟩
 |tbl ps=>exact⟨_,x⟩
 |met f y=>exact⟨_,x⟩
 |ext φ=>exact x.2.1
theorem HOk.un0 {P:Program}{w:World}{H:Hp}{h:Heap}{a:Addr}(x:HOk P w H h)(e:h.get? a=none):H a=none:=by
 cases q:H a with
 |none=>rfl
 |some u=>obtain⟨v,hv⟩:=(x a u q).ex;rw[e] at hv;cases hv
structure Fl (h0 h:Heap)(H:Hp)(a T:Addr)(cls:Value):Prop where
 na:h0.get? a=none
 nT:h0.get? T=none
 fa:H a=none
 fT:H T=none
 ne:T≠a
 obj:∃oe vs oT ts a0,h.get? a=some oe/\oe.cls=cls/\vs[0]?=some a0/\oe.data= .fields vs/\vs[1]?=some (.ref T)/\h.get? T=some oT/\oT.data= .fields ts/\ts[3]?=some Value.none
noncomputable def Cd (h:Heap)(fs:List Addr)(a T:Addr):Heap:=DZ h (λb=>if b∈fs∨b=a∨b=T then some (.own 0) else none)
theorem Qh {h:Heap}{fs:List Addr}{a T b:Addr}{o:Obj}(e:h.get? b=some o)(n1:b∉fs)(n2:b≠a)(n3:b≠T):(Cd h fs a T).get? b=some o:=
 Gq e (if_neg λz=>z.elim n1 λz=>z.elim n2 n3)
theorem V2 {h:Heap}{fs:List Addr}{a T b:Addr}{o:Obj}(e:(Cd h fs a T).get? b=some o):h.get? b=some o/\b∉fs/\b≠a/\b≠T:=by
 obtain⟨h1,h2⟩:=Dr e
 have h3:¬(b∈fs∨b=a∨b=T):=λz=>by
  have:=(if_pos z).symm.trans h2
  cases this
 exact⟨h1,λq=>h3 (.inl q),λq=>h3 (.inr (.inl q)),λq=>h3 (.inr (.inr q))⟩
theorem Zh {h:Heap}{fs:List Addr}{a T b:Addr}(n:b∈fs∨b=a∨b=T):(Cd h fs a T).get? b=none:=by
 cases q:(Cd h fs a T).get? b with
 |none=>rfl
 |some o=>
  obtain⟨_,h1,h2,h3⟩:=V2 q
  exact(n.elim h1 λz=>z.elim h2 h3).elim
theorem Uo {h base B:Heap}:∀{l:List Env},h.FunFrames base l->(∀b∈frs l,B.get? b=none)->h.FunFrames B l
 | [],_,_=>trivial
 |env::r,⟨hk,⟨L,o,hf,hn,ho,hd⟩,hr⟩,n=>
  ⟨hk,⟨L,o,hf,n L (by unfold frs;rw[List.filterMap_cons,hf];exact List.mem_cons_self),ho,hd⟩,Uo hr λb hb=>n b (by unfold frs;rw[List.filterMap_cons,hf];exact List.mem_cons_of_mem _ hb)⟩
section
variable {P:Program}{w:World}{h0 h h' base:Heap}{H:Hp}{a T:Addr}{cls a0:Value}{l:List Env}
theorem Fl.fly (x:Fl h0 h H a T cls)(hl:h.FunFrames base l):∃a0,Heap.FlyingW (Cd h (frs l) a T) l a cls a0 h:=by
 obtain⟨oe,vs,oT,ts,a0,ha,hc,h0',hd,h1,hT,hdT,h3⟩:=x.obj
 exact⟨a0,λb o e=>(V2 e).1,Zh (.inr (.inl rfl)),Uo hl λb hb=>Zh (.inl hb),oe,vs,T,oT,ts,ha,⟨hc,h0'⟩,hd,h1,Zh (.inr (.inr rfl)),x.ne,hT,hdT,h3⟩
theorem Un.traced (hl:h.FunFrames base l)(keep:∀b o,b∉frs l->b≠a->b≠T->h.get? b=some o->h'.get? b=some o)(up:h.UpToSlots h'):Un (frs l) [a,T] H H h h' where
 keep:=λb o e _ hb hx=>keep b o hb (λz=>hx (by simp[z])) (λz=>hx (by simp[z])) e
 slot:=λb o e _ hb _=>by
  obtain⟨_,o2,ho2,hd2⟩:=hl.mem hb
  rw[e] at ho2;cases ho2
  exact up b o e hd2
 free:=λb o e n _=>n
 there:=λb o e hx=>by
  by_cases hb:b∈frs l
  ·obtain⟨_,o2,ho2,hd2⟩:=hl.mem hb
   obtain⟨sl,q⟩:=up b o2 ho2 hd2
   exact⟨_,q⟩
  ·exact⟨o,keep b o hb (λz=>hx (by simp[z])) (λz=>hx (by simp[z])) e⟩
 tups:=λ_ _ q=>q
 frzs:=λ_ _ _ q=>q
 tbls:=λ_ ps q=>⟨#[],by simpa using q⟩
theorem HOk.traced (hok:HOk P w H h)(hfn:∀b∈frs l,H b=none)(fa:H a=none)(fT:H T=none)(keep:∀b o,b∉frs l->b≠a->b≠T->h.get? b=some o->h'.get? b=some o):HOk P w H h':=λb o e=>by
 refine(hok b o e).stay (λc u hc q=>?_) (λ_ q=>q) λ_ _ q=>q
 have hn:H c≠none:=by
  rcases hc with z |z
  ·rw[z,e];exact λy=>nomatch y
  ·rw[z];exact λy=>nomatch y
 exact keep c u (λz=>hn (hfn c z)) (λz=>hn (z▸fa)) (λz=>hn (z▸fT)) q
theorem Fl.after (x:Fl h0 h H a T cls)(hl:h.FunFrames base l)(hfn:∀b∈frs l,H b=none)(hok:HOk P w H h)(th:∀b o,h0.get? b=some o->∃o',h.get? b=some o')
  (st:(Cd h (frs l) a T).StaysIn h')(tr:h'.TracedW (Cd h (frs l) a T) a cls a0)(up:h.UpToSlots h'):∃T',Fl h0 h' H a T' cls/\HOk P w H h'/\Un (frs l) [a,T] H H h h':=by
 obtain⟨oe,vs,T',oT,ts,ha,⟨hc,h0'⟩,hd,h1,hnT,hne,hT,hdT,h3⟩:=tr
 have key:T'=T∨h.get? T'=none:=by
  cases q:h.get? T' with
  |none=>exact .inr rfl
  |some o=>
   by_cases hf:T'∈frs l
   ·obtain⟨_,o2,ho2,hd2⟩:=hl.mem hf
    obtain⟨sl,e2⟩:=up T' o2 ho2 hd2
    rw[hT] at e2;cases e2
    exact absurd hdT (hd2 ts)
   ·by_cases hz:T'=T
    ·exact .inl hz
    ·rw[Qh q hf hne hz] at hnT;cases hnT
 have keep:∀b o,b∉frs l->b≠a->b≠T->h.get? b=some o->h'.get? b=some o:=λb o n1 n2 n3 e=>st b o (Qh e n1 n2 n3)
 refine⟨T',⟨x.na,?_,x.fa,?_,hne,oe,vs,oT,ts,a0,ha,hc,h0',hd,h1,hT,hdT,h3⟩,hok.traced hfn x.fa x.fT keep,Un.traced hl keep up⟩
 ·rcases key with e |e
  ·rw[e];exact x.nT
  ·cases q:h0.get? T' with
   |none=>rfl
   |some o=>obtain⟨o',e'⟩:=th _ _ q;rw[e] at e';cases e'
 ·rcases key with e |e
  ·rw[e];exact x.fT
  ·exact hok.un0 e
end
section
variable {fs fs2 ex ex2:List Addr}{H0 H H':Hp}{h0 h h':Heap}
theorem Un.past (u:Un fs ex H0 H h0 h)(v:Un fs2 ex2 H H' h h')(n:∀b,b∈ex2->h0.get? b=none)(f:∀b,b∈fs2->b∈fs∨h0.get? b=none):Un fs ex H0 H' h0 h' where
 keep:=λb o e m hb hx=>v.keep b o (u.keep b o e m hb hx) (u.free b o e m hx) (λz=>(f b z).elim hb λy=>by rw[e] at y;cases y) λz=>by rw[n b z] at e;cases e
 slot:=λb o e m hb hx=>by
  obtain⟨sl,q⟩:=u.slot b o e m hb hx
  obtain⟨sl2,q2⟩:=v.any q (u.free b o e m hx) (λz=>by rw[n b z] at e;cases e)
  exact⟨sl2,q2⟩
 free:=λb o e m hx=>by
  obtain⟨o',q⟩:=u.there b o e hx
  exact v.free b o' q (u.free b o e m hx) (λz=>by rw[n b z] at e;cases e)
 there:=λb o e hx=>by
  obtain⟨o',q⟩:=u.there b o e hx
  exact v.there b o' q (λz=>by rw[n b z] at e;cases e)
 tups:=λb xs q=>v.tups b xs (u.tups b xs q)
 frzs:=λb o x q=>v.frzs b o x (u.frzs b o x q)
 tbls:=λb ps q=>by
  obtain⟨m1,e1⟩:=u.tbls b ps q
  obtain⟨m2,e2⟩:=v.tbls b _ e1
  exact⟨m1++m2,by rw[e2,Array.append_assoc]⟩
end
theorem Inv.past {X:Cx}{pins:List (Addr×Obj)}{σ:St}{H H':Hp}{s:Shared}{h':Heap}{ch:List Addr}(I:Inv X pins σ H s)(u:Un (frs X.stack) ch H H' s.heap h')(hok:HOk X.prog X.w H' h')
  (hch:∀b∈ch,X.s₀.heap.get? b=none/\b≠X.env.locals/\(∀x c,X.env.cells.lookup x=some c->c≠b)/\∀p∈X.pn++pins,p.1≠b):Inv X pins σ H' {s with heap:=h'}:=by
 have nL:X.s₀.heap.get? X.env.locals=none:=Heap.get?_none_of_le I.ok.above
 obtain⟨m,⟨o,es,ep,ho,hd,hr⟩,hl⟩:=id I.loc
 have lch:X.env.locals∉ch:=λz=>(hch _ z).2.1 rfl
 obtain⟨sl,hL⟩:=u.any ho I.free lch
 have cl:∀x c v,X.env.cells.lookup x=some c->s.heap.IsCell c v->h'.IsCell c v:=λx c v e ⟨oc,e1,e2⟩=>by
  obtain⟨sl,q⟩:=u.any e1 (I.freeC x c e) λz=>(hch c z).2.2.1 x c e rfl
  exact⟨_,q,e2⟩
 refine⟨I.ok,I.os,I.bare,I.base.past u (λb hb=>(hch b hb).1) λb hb=>?_,⟨m,⟨_,es,ep,hL,hd,hr⟩,λi x v e1 e2 e3=>?_⟩,λx c e=>?_,u.free _ o ho I.free lch,λx c e=>?_,λp hp=>?_,hok,I.len⟩
 ·rcases List.mem_cons.mp (I.stkSub b hb) with z |z
  ·exact .inr (z▸nL)
  ·exact .inl z
 ·obtain⟨u',r,q⟩:=hl i x v e1 e2 e3
  refine⟨u',r,?_⟩
  rcases q with q | ⟨k,c,e,z⟩
  ·exact .inl q
  ·exact .inr ⟨k,c,e,cl x c _ e z⟩
 ·obtain⟨v,z⟩:=I.cell x c e
  exact⟨v,cl x c v e z⟩
 ·obtain⟨v,oc,e1,_⟩:=I.cell x c e
  exact u.free c oc e1 (I.freeC x c e) λz=>(hch c z).2.2.1 x c e rfl
 ·obtain⟨e,n,ne,nf,d⟩:=I.pin p hp
  have nch:p.1∉ch:=λz=>(hch p.1 z).2.2.2 p hp rfl
  exact⟨u.keep p.1 p.2 e n (λz=>(List.mem_cons.mp (I.stkSub _ z)).elim ne nf) nch,u.free p.1 p.2 e n nch,ne,nf,d⟩
section
variable {P:Program}{w:World}{K:PySem.W.Frag}{mg:Str->Option Value}{base:Heap}{N:List Str}{qual:Str}{scope:Scope}{f:Addr}{cd:Value}{A:Around}{outer:List Env}{s0:Shared}{H0:Hp}{E:XK}
end
section
variable {X:Cx}{k j:Nat}{x:Str}{ps:List Str}{sp:Sp}{e:Expr}{es:List Expr}{t:TA}{p pos:Pos}{E:XK}
end
theorem EN {K:PySem.W.Frag}{h:Heap}{C:Addr}{bmB:List Value}{newId:String}(X:K.In h)(q:PySem.W.excIn K C bmB newId=true):
  ∃bm N nm q bs hdct sn sub ab col dd k0 k1 k2 k3 k5 mN,h.get? C=some (excClassObj nm q C N bs bm hdct sn sub ab col dd k0 k1 k2 k3 k5 newId)/\h.Ns N mN/\mN "__init__" =none/\OwnTail h bmB bm:=by
 unfold PySem.W.excIn at q
 split at q
 ·rename_i dd cd sl ho
  split at q
  ·rename_i C' bm k0 k1 k2 k3 n k5 hm hs
   simp only[Bool.and_eq_true,beq_iff_eq,Bool.not_eq_true'] at q
   obtain⟨⟨⟨⟨⟨q1,q2⟩,q3⟩,q4⟩,q5⟩,q6⟩:=q
   subst q1 q2
   obtain⟨nm,bs,mro,ns,qn,hd,sn,sub,ab,col,del⟩:=cd
   have e1:mro=_:=hm
   have e2:del=false:=q3
   subst e1 e2
   obtain⟨l⟩:=sl
   have e3:l=_:=hs
   subst e3
   exact⟨bm,ns,nm,qn,bs,hd,sn,sub,ab,col,dd,k0,k1,k2,k3,k5,_,X _ _ ho, .of_isNs (PySem.W.isNs_of_in X q5),PySem.W.nsMap_none_of_in X q5 q6,PySem.W.tail_of_in X q4⟩
  ·cases q
 ·cases q
abbrev vEr:List Value:=[.type "ValueError", .type "Exception", .type "BaseException", .type "object"]
section
variable {X:Cx}{E:XK}{C:Addr}{x:Str}{e:Expr}{es:List Expr}{t:TA}{np cpos pos:Pos}
end
noncomputable abbrev TJ:=St->Hp->(Hp->Prop)->Prop
section
variable {X:Cx}{e:Expr}{es:List Expr}{te:TE}{t:TJ}{n:Nat}{pos p:Pos}
end
noncomputable abbrev Cx.held (X:Cx)(a:Addr)(pn:List (Addr×Obj)):Cx:={X with A:=X.A.mark (some (.ref a)),calm:=false,pn:=pn,xe:=λ_ _=>False}
theorem Cx.Ok.held {X:Cx}(ok:X.Ok)(a:Addr)(pn:List (Addr×Obj)):(X.held a pn).Ok:=
 ⟨ok.mod,ok.kind,ok.glob,ok.blt,ok.above,ok.inj,ok.has,ok.cab,(λz=>nomatch z),ok.frames,ok.stk,ok.exf,ok.bs,ok.bsz,ok.noex,ok.exfs,ok.funs,ok.frf⟩
section
variable {X:Cx}{pins:List (Addr×Obj)}{σ:St}{H:Hp}{s:Shared}{h':Heap}
end
section
variable {X:Cx}{body suite:List Stmt}{b₀:Stmt}{cn n:Str}{Ch:Addr}{i:Nat}{tb:XK->TS}{ts:Addr->Addr->TS}{np hpos pos:Pos}
end
section
variable {K:PySem.W.Frag}{Er:Exc->Hp->Prop}{S:SC}{OO OO' OO2:List (List XA)}{σ:St}{α β γ ρ ι:Type}{α1 α2 α3 α4 α5 α6:Type}{mg:Str->Option Value}{E:XK}
structure PX {β:Type}(Er:Exc->Hp->Prop)(F:β->Hp->Prop)(H:Hp)(m:Rs β):Prop where
 z:PZ Er F H m
noncomputable def FJ (Q:Hp->Prop)(_:Unit)(H:Hp):Prop:=∀ H',Xw H H'->Q H'
theorem FJ.tr {Q:Hp->Prop}:∀(b:Unit) (H H':Hp),Xw H H'->FJ Q b H->FJ Q b H':=λ_ _ _ s h H2 s2=>h H2 (s.trans s2)
variable {Fd:Ends->β->Hp->Prop}[fd:FdOk Fd]{u:TS}
noncomputable def Y6 (n d:Str):Bool:=n==d || d==("PlaitError":Str)
noncomputable def erA (K:PySem.W.Frag)(C:Addr):Bool:=PySem.W.findIn K (.ref C) "__getattribute__" ==some (some (.builtin "BaseException.__getattribute__"))&&PySem.W.findIn K (.ref C) "__getattr__" ==some none&&PySem.W.findIn K (.ref C) "__class__" ==some (some (.builtin "object.__class__"))&&
 PySem.W.specialIn K (.builtin "object.__class__") "__get__" ==some (some (.builtin "getset_descriptor.__get__"))&&PySem.W.takesIn K (.builtin "object.__class__")==some true&&PySem.W.mroIn K C (.type "object")==some true&&(PySem.W.clsIn K C).isSome&&PySem.W.mroIn K C (.type "BaseException")==some true
noncomputable def Je (n:Str):Bool:=!(n==("NotADrawing":Str))&&!(n==("NoChain":Str))
noncomputable def Eu (K:PySem.W.Frag)(cs:List (Str×Addr)):Bool:=cs.all λp=>(!(Je p.1) || PySem.W.excIn K p.2 vEr "ValueError.__new__")&&erA K p.2&&PySem.W.kitOne K (.ref p.2) (.type "ValueError")==some true&&
 cs.all λq=>PySem.W.kitOne K (.ref p.2) (.ref q.2)==some (Y6 p.1 q.1)&&PySem.W.exmOne K (.ref p.2) (.ref q.2)==some (Y6 p.1 q.1)
structure Ecs (ns:List Str)(K:PySem.W.Frag)(mg:Str->Option Value):Prop where
 adr:∀n∈ns,∃C,mg n=some (.ref C)/\(Je n=true->PySem.W.excIn K C vEr "ValueError.__new__" =true)
 att:∀n∈ns,∀C,mg n=some (.ref C)->erA K C=true
 val:∀n∈ns,∀C,mg n=some (.ref C)->PySem.W.kitOne K (.ref C) (.type "ValueError")=some true
 kit:∀n∈ns,∀d∈ns,∀C D,mg n=some (.ref C)->mg d=some (.ref D)->PySem.W.kitOne K (.ref C) (.ref D)=some (Y6 n d)
 exm:∀n∈ns,∀d∈ns,∀C D,mg n=some (.ref C)->mg d=some (.ref D)->PySem.W.exmOne K (.ref C) (.ref D)=some (Y6 n d)
theorem Iy {cs:List (Str×Addr)}(h:Eu K cs=true)(hn:∀p∈cs,mg p.1=some (.ref p.2)):Ecs (cs.map (·.1)) K mg:=by
 have key:∀n∈cs.map (·.1),∀C,mg n=some (.ref C)->(n,C)∈cs:=λn hm C hC=>by
  obtain⟨⟨n',C'⟩,hp,rfl⟩:=List.mem_map.mp hm
  have:=hn _ hp
  rw[hC] at this
  cases this
  exact hp
 have hp:∀p∈cs,_:=List.all_eq_true.mp h
 simp only[Bool.and_eq_true,List.all_eq_true,beq_iff_eq,Bool.or_eq_true] at hp
 refine⟨λn hm=>?_,λn hm C hC=>(hp _ (key n hm C hC)).1.1.2,λn hm C hC=>(hp _ (key n hm C hC)).1.2,λn hm d hd C D hC hD=>((hp _ (key n hm C hC)).2 _ (key d hd D hD)).1,λn hm d hd C D hC hD=>((hp _ (key n hm C hC)).2 _ (key d hd D hD)).2⟩
 obtain⟨⟨n',C'⟩,hq,rfl⟩:=List.mem_map.mp hm
 exact⟨C',hn _ hq,λe=>(hp _ hq).1.1.1.resolve_left (by rw[e];exact Bool.false_ne_true)⟩
noncomputable def cau (ns:List Str)(n d:Str):Bool:=decide (n∈ns)&&Y6 n d
noncomputable def Rs.tryC (m:Rs α)(f:α->Rs β)(g:Exc->Rs β):Rs β:=match m with
 | .bad=>.bad
 | .err x=>g x
 | .ok a=>f a
theorem DM {c:Prop}[Decidable c]{m:Rs β}{F:β->Hp->Prop}{H:Hp}(P:PZ Er F H (chk c m)):c/\PZ Er F H m:=by
 by_cases hc:c
 ·rw[XG hc] at P;exact⟨hc,P⟩
 ·unfold chk at P
  rw[if_neg hc] at P
  exact P.elim
section
variable {te:XK->TE}{m:Rs α}{ts:Addr->Addr->TS}{N i:Nat}{Ch:Addr}{o:OE ρ}{g:Exc->Rs ρ}{ns:List Str}{d:Str}
end
noncomputable def vOf:V->Value
 | .ref a=>.ref a
 | .ty n=>.type n
 |_=>.none
noncomputable def Lv (K:PySem.W.Frag)(c:Value)(a:Addr)(xs:List V)(H:Hp)(Q:VK):Prop:=∃ d b C,c= .ref C/\erA K C=true/\xs=[.ref a,d]/\((∃D,d= .ref D)∨∃n,d= .ty n)/\PySem.W.kitOne K c (vOf d)=some b/\Q (.bl b) H
theorem Km {a C D:Addr}{b:Bool}(i:Nat)(hσ:σ[i]?=some (some (.ref a)))(hA:erA K C=true)(hk:PySem.W.kitOne K (.ref C) (.ref D)=some b):EvB K Er S OO σ (tCB (Lv K (.ref C) a) (XT (QD i) (XT (tC (.ref D)) ZQ))) Xt (.ok b):=λH Q w s P=>
 ⟨_,hσ,_,b,C,rfl,hA,rfl, .inl ⟨D,rfl⟩,hk,P _ H (Xw.refl _) rfl⟩
theorem ES {a C:Addr}{n:String}{b:Bool}(i:Nat)(hσ:σ[i]?=some (some (.ref a)))(hA:erA K C=true)(hk:PySem.W.kitOne K (.ref C) (.type n)=some b):EvB K Er S OO σ (tCB (Lv K (.ref C) a) (XT (QD i) (XT (tC (.ty n)) ZQ))) Xt (.ok b):=λH Q w s P=>
 ⟨_,hσ,_,b,C,rfl,hA,rfl, .inr ⟨n,rfl⟩,hk,P _ H (Xw.refl _) rfl⟩
end
end L2
namespace L2
open PySem PySem.Spec PyProof.Rows PySem.W PySem.Builtin PySem.Builtin.ObjectAttr PySem.Builtin.Getset_descriptor
section
variable {prog:Program}{w:World}{A:Around}{E:Value->Shared->Prop}{K:Frag}{x D:Addr}{s:Shared}
theorem CK {M:Model}{h:Heap}(X:K.In h)(cl:findIn K (.ref D) "__class__" =some (some (.builtin "object.__class__")))(sg:specialIn K (.builtin "object.__class__") "__get__" =some (some (.builtin "getset_descriptor.__get__")))(tk:takesIn K (.builtin "object.__class__")=some true):
  Looks M h (Builtin.ObjectAttr.find (.ref x) (.ref D) "__class__") (.bind (.builtin "getset_descriptor.__get__") (.builtin "object.__class__")):=by
 have L3:=looks_takesIn (M:=M) X tk
 exact(looks_findIn (M:=M) X cl).andThen ((looks_specialIn X sg).andThen ((show Looks M h (Builtin.ObjectAttr.dataDescriptor? (some (.builtin "object.__class__")) (some (.builtin "getset_descriptor.__get__"))) (some (.builtin "getset_descriptor.__get__", .builtin "object.__class__")) from L3.andThen .now).andThen (Looks.tag .now)))
theorem B1 {R:Result->Shared->Prop}{tp:Value}(X:K.In s.heap)(L0:Looks (model prog w) s.heap (typeOf (.ref x)) (.ref D))(hm:mroIn K D (.type "object")=some true)
  (h:R (.ok (.ret (.ref D))) s):codeAny (model prog w) A (.call (.builtin "getset_descriptor.__get__") ⟨[.builtin "object.__class__", .ref x,tp],[]⟩) R s:=by
 obtain⟨hh,g,dr,t,os⟩:=s
 have L1:=looks_mroIn (M:=model prog w) X hm
 refine codeAny_call_builtin KF.slot_gs.plain KF.entry_gs (KF.slot_gs.check _ _ _ _ _ _ _ _ KF.type_class (KF.args_gs _ _ _) ?_)
 unfold Builtin.«getset_descriptor.__get__» descrGet
 rw[dga_obj]
 refine wpAny_bind (wpAny_pure ?_)
 unfold descrGetter descrCheckInstance descrNameAndClass isInstance
 simp only[KF.owner_class]
 repeat lk
 refine⟨Code.quiet_builtin _ (by decide+kernel),codeAny_builtin KF.entry_class ?_⟩
 unfold Builtin.«object.__class__» shownTypeOf
 repeat lk
 exact h
theorem Fi {Q:Option Value->Shared->Prop}(X:K.In s.heap)(hx:∃o,s.heap.get? x=some o/\o.cls= .ref D)(hA:erA K D=true)(h:Q (some (.ref D)) {s with toks:=s.toks+1}):wpAny (model prog w) A (getAttr? (.ref x) "__class__") Q E s:=by
 obtain⟨hh,g,d,t,os⟩:=s
 obtain⟨o,ho,hc⟩:=hx
 unfold erA at hA
 simp only[Bool.and_eq_true,beq_iff_eq] at hA
 obtain⟨⟨⟨⟨⟨⟨⟨ga,gh⟩,cl⟩,sg⟩,tk⟩,mo⟩,ci⟩,mb⟩:=hA
 have L0:Looks (model prog w) hh (typeOf (.ref x)) (.ref D):=hc▸(Looks.ld ho).andThen .now
 have L1:=looks_findIn (M:=model prog w) X ga
 have L2:=looks_findIn (M:=model prog w) X gh
 have LB:=looks_mroIn (M:=model prog w) X mb
 have LF:=CK (M:=model prog w) (x:=x) X cl sg tk
 have f3:=PySem.F.attr_ValueError.ga.bind (.ref x)
 have hx2:(Value.builtin "BaseException.__getattribute__" ==Value.builtin "object.__getattribute__")=false:=by decide+kernel
 unfold getAttr? getAttrBy? getAttrBy
 refine wpAny_bind (wpAny_mkText (wpAny_bind (wpAny_attempt (wpAny_holding (wpAny_bind (L0.at (wpAny_bind (L1.at ?_))))))))
 dsimp only
 rw[hx2,Bool.and_false,if_neg Bool.false_ne_true]
 unfold getAttrByItsOwn hookBefore callGetattribute boundAndCalled
 refine wpAny_bind (L2.at ?_)
 refine wpAny_bind (wpAny_attempt (wpAny_holding ?_))
 rw[Bool.false_and,if_neg Bool.false_ne_true,f3]
 refine wpAny_bind (wpAny_pure ?_)
 refine wpAny_call (codeAny_call_builtin PySem.F.attr_ValueError.ga.plain PySem.F.entry_bexc_ga ?_)
 have hk:builtinKind "BaseException.__getattribute__" =some .slot:=by decide+kernel
 have hsplit:splitId "BaseException.__getattribute__" =some ("BaseException","__getattribute__"):=by decide+kernel
 have ha:=PySem.F.args_bexc_ga (.ref x) (Value.str (Str.ofString "__class__") t)
 simp only[checkBuiltinCall,hk,hsplit]
 unfold isInstance
 refine wpAny_bind (wpAny_bind (L0.at ?_))
 refine LB.at ?_
 rw[if_neg (by decide)]
 have fin:∀s1:Shared,s1=⟨hh,g,d,t+1,os⟩->wpAny (model prog w) A.in1 («object.__getattribute__» {pos:=[Value.ref x]++[Value.str (Str.ofString "__class__") t]}) (λfin s'=>match fin with | .done (.ret v)=>v= .ref D/\s'=s1 |_=>False) (λ_ _=>False) s1:=by
  intro s1 hs1
  subst hs1
  unfold «object.__getattribute__» bindTo
  repeat (any_goals (first |with_reducible refine wpAny_call (B1 X L0 mo ?_) |lk))
  exact⟨rfl,rfl⟩
 unfold argsOk at ha
 have sg2:∀sig,Manifest.signature? "BaseException.__getattribute__" =some sig->Bind.checkArgs "BaseException.__getattribute__" sig {pos:=[Value.ref x,Value.str (Str.ofString "__class__") t]}=pure ():=λsig e=>by
  rw[e] at ha
  exact ha
 have Y1:∀{P:Unit->Shared->Prop}{E':Value->Shared->Prop}{s1:Shared},P () s1->wpAny (model prog w) A.in1 (match Manifest.signature? "BaseException.__getattribute__" with |some sig=>Bind.checkArgs "BaseException.__getattribute__" sig {pos:=[Value.ref x]++[Value.str (Str.ofString "__class__") t]} |_=>pure ()) P E' s1:=fun {P E' s1} p=>by
  split
  ·rename_i sig e
   rw[show[Value.ref x]++[Value.str (Str.ofString "__class__") t]=[Value.ref x,Value.str (Str.ofString "__class__") t] from rfl,sg2 sig e]
   exact wpAny_pure p
  ·exact wpAny_pure p
 refine Y1 ?_
 refine wpAny_mono (fin _ rfl) (λfi s' z=>?_) λ_ _ z=>z.elim
 rcases fi with(_ |_ |_ |v) |_
 all_goals first |exact z.elim |skip
 obtain⟨rfl,rfl⟩:=z
 exact handed_on rfl (wpAny_pure h)
theorem CC (hA:erA K D=true):KitX K (.ref x) (.ref D) (λh=>∃ o,h.get? x=some o/\o.cls= .ref D) where
 ty:=λ_ _ _ ⟨o,ho,hc⟩=>hc▸(Looks.ld ho).andThen .now
 it:=λ_ _ X _=>by
  unfold erA at hA
  simp only[Bool.and_eq_true] at hA
  have z0:=hA.1.2
  unfold clsIn at z0
  split at z0
  ·rename_i ho
   intro A' Q' E' s' k q
   unfold isType loadHead
   exact wpAny_bind (wpAny_loadPart (k _ _ (X _ _ ho)) (wpAny_pure q))
  ·cases z0
 ne:=λh tp dd its n sl X htp=>by
  unfold erA at hA
  simp only[Bool.and_eq_true] at hA
  have z0:=hA.1.2
  refine Bool.eq_false_iff.mpr λq=>?_
  have e:D=tp:=Value.ref.inj (beq_iff_eq.mp q)
  subst e
  unfold clsIn at z0
  split at z0
  ·rename_i ho
   cases(X _ _ ho).symm.trans htp
  ·cases z0
 ca:=λX I k=>Fi X I hA k
end
theorem Bw {X:Cx}{x:Str}{v:V}{pos:Pos}(h:∃u,X.mg x=some u/\X8 v u)(hg:Gl X x)(hd:(x==("__debug__":Str))=false:=by decide):PE X (.Name x pos) (tC v):=by
 obtain⟨u,hm,r⟩:=h
 exact Uf hg hm r hd
theorem PS.nox {X:Cx}{st:Stmt}{t:TS}(h:PS X.nox st t):PS X st t:=λpins s σ H D I hw=>
 wpAny_mono (h pins s σ H D (I.wish _) hw) (λ_ _ q=>q.unwish) λ_ _ z=>False.elim z
theorem JF {X:Cx}{a C:Addr}{o:Obj}{pn:List (Addr×Obj)}(hpn:X.pn=pn)(hp:(a,o)∈pn)(hc:o.cls= .ref C){K:Frag}(hK:X.K=K):Qj X (.builtin "isinstance") (Lv K (.ref C) a):=by
 subst hpn hK
 intro pins s σ H xs us Q I r ⟨d,b,C',hC',hA,hxs,hd,hk,q⟩
 cases hC'
 subst hxs
 obtain⟨e,_⟩:=I.pin (a,o) (List.mem_append_left _ hp)
 cases r with
 |cons r1 r2=>
  cases r2 with
  |cons r3 r4=>
   cases r4
   rename_i u1 u2
   obtain rfl:u1=Value.ref a:=r1
   have e2:u2=vOf d:=by
    rcases hd with⟨D,rfl⟩ | ⟨n,rfl⟩
    ·exact r3
    ·exact r3
   subst e2
   exact kia_one (CC hA) I.kIn ⟨o,e,hc⟩ hk (λz=>nomatch z) λtk=>⟨.bl b,H,I.tok tk,rfl,q⟩
section
variable {K:PySem.W.Frag}{C D:Addr}{b:Bool}
theorem Gw (h1:PySem.W.findIn K (.ref C) "__getattribute__" =some (some (.builtin "BaseException.__getattribute__")))(h2:PySem.W.findIn K (.ref C) "__getattr__" =some none)(h3:PySem.W.findIn K (.ref C) "__class__" =some (some (.builtin "object.__class__")))
  (h6:PySem.W.mroIn K C (.type "object")=some true)(h7:PySem.W.isClsIn K C=true)(h8:PySem.W.mroIn K C (.type "BaseException")=some true)(h4:PySem.W.specialIn K (.builtin "object.__class__") "__get__" =some (some (.builtin "getset_descriptor.__get__")))(h5:PySem.W.takesIn K (.builtin "object.__class__")=some true):erA K C=true:=by
 unfold erA
 unfold PySem.W.isClsIn at h7
 rw[h1,h2,h3,h4,h5,h6,h7,h8]
 rfl
theorem V5 (h:PySem.W.subIn K (.ref C) (.type "ValueError")=some true):PySem.W.kitOne K (.ref C) (.type "ValueError")=some true:=by
 have e:PySem.W.kitOne K (.ref C) (.type "ValueError")=PySem.W.subIn K (.ref C) (.type "ValueError"):=rfl
 rw[e,h]
theorem Qk (s:PySem.W.subIn K (.ref C) (.ref C)=some true)(h:PySem.W.subIn K (.ref C) (.ref D)=some b)(h7:PySem.W.isClsIn K D=true)(ht:PySem.W.typeIn K (.ref D)=some (.type "type"))(hb:PySem.W.subIn K (.ref D) (.type "BaseException")=some true):
  PySem.W.kitOne K (.ref C) (.ref D)=some b/\PySem.W.exmOne K (.ref C) (.ref D)=some b:=by
 have e:PySem.W.kitCls K (.ref C) (.ref D)=some b:=by
  unfold PySem.W.kitCls
  unfold PySem.W.isClsIn at h7
  dsimp only
  rw[h7,ht,h]
  rfl
 constructor
 ·unfold PySem.W.kitOne
  rw[e]
  split
  ·rename_i q
   have q:=eq_of_beq q
   rw[←q,s] at h
   exact h
  ·rfl
 ·unfold PySem.W.exmOne
  rw[hb,e]
  rfl
end
end L2
namespace L2
open PySem PySem.Spec PyProof.Rows
section
variable {α β:Type}{K:PySem.W.Frag}{Er:Exc->Hp->Prop}{S:SC}{OO:List (List XA)}{σ:St}{Fd:Ends->β->Hp->Prop}[fd:FdOk Fd]{u:TS}
end
section
variable {α β γ δ ε:Type}
noncomputable def rEi (r:Enc α)(q:Enc β):Enc (α ⊕ β):=λK H v a=>match a with
 | .inl a=>r K H v a
 | .inr b=>q K H v b
noncomputable def oEi (o:OE α)(p:OE β):OE (α ⊕ β):=λK H v a C=>match a with
 | .inl a=>o K H v a C
 | .inr b=>p K H v b C
instance {r:Enc α}{q:Enc β}[m:MonoE r][n:MonoE q]:MonoE (rEi r q):=⟨fun {K H H' v a} s h=>by cases a with
 |inl a=>exact m.mono s h
 |inr a=>exact n.mono s h⟩
instance {r:Enc α}{q:Enc β}[m:FlatE r][n:FlatE q]:FlatE (rEi r q):=⟨fun {K H H' v a} s h=>by cases a with
 |inl a=>exact m.flat s h
 |inr a=>exact n.flat s h⟩
instance {r:OE α}{q:OE β}[m:MonoO r][n:MonoO q]:MonoO (oEi r q):=⟨fun {K H H' v a C} s h=>by cases a with
 |inl a=>exact m.mono s h
 |inr a=>exact n.mono s h⟩
instance {r:OE α}{q:OE β}[m:FlatO r][n:FlatO q]:FlatO (oEi r q):=⟨fun {K H H' v a C} s h=>by cases a with
 |inl a=>exact m.flat s h
 |inr a=>exact n.flat s h⟩
instance {r:OE α}{q:OE β}{t:Enc α}{u:Enc β}[m:FrzC r t][n:FrzC q u]:FrzC (oEi r q) (rEi t u):=⟨fun {K H H' v a C} h s hc=>by cases a with
 |inl a=>exact m.frz h s hc
 |inr a=>exact n.frz h s hc⟩
inductive Kd where
 |non |bl |int |str |lst |tup
noncomputable def KdV (s:Shared)(v:Value):Kd->Prop
 | .non=>v= .none
 | .bl=>∃ b,v= .bool b
 | .int=>∃ i t,v= .int i t
 | .str=>∃ x t,v= .str x t
 | .lst=>∃ l items,v= .ref l/\s.heap.IsList l items
 | .tup=>∃ l items,v= .ref l/\s.heap.IsTuple l items
noncomputable def KdX (K:PySem.W.Frag)(H:Hp)(x:V):Kd->Prop
 | .non=>x= .non
 | .bl=>∃ b,x= .bl b
 | .int=>∃ i,x= .int i
 | .str=>∃ i,x= .str i
 | .lst=>∃ a xs,x= .ref a/\SqL K H a xs
 | .tup=>∃ a xs,x= .ref a/\SqT K H a xs
noncomputable def Kd.dis:Kd->Kd->Bool
 | .non, .bl=>true
 | .non, .int=>true
 | .non, .str=>true
 | .non, .lst=>true
 | .non, .tup=>true
 | .bl, .non=>true
 | .bl, .str=>true
 | .bl, .lst=>true
 | .bl, .tup=>true
 | .int, .non=>true
 | .int, .str=>true
 | .int, .lst=>true
 | .int, .tup=>true
 | .str, .non=>true
 | .str, .bl=>true
 | .str, .int=>true
 | .str, .lst=>true
 | .str, .tup=>true
 | .lst, .non=>true
 | .lst, .bl=>true
 | .lst, .int=>true
 | .lst, .str=>true
 | .lst, .tup=>true
 | .tup, .non=>true
 | .tup, .bl=>true
 | .tup, .int=>true
 | .tup, .str=>true
 | .tup, .lst=>true
 |_,_=>false
theorem kdV {X:Cx}{pins:List (Addr×Obj)}{σ:St}{H:Hp}{s:Shared}{x:V}{v:Value}(I:Inv X pins σ H s)(rx:X8 x v):∀{k:Kd},KdX X.K H x k->KdV s v k
 | .non,h=>by cases(show x= .non from h);cases rx;rfl
 | .bl,⟨b,h⟩=>by subst h;cases rx;exact⟨b,rfl⟩
 | .int,⟨b,h⟩=>by subst h;obtain⟨t,rfl⟩:=rx;exact⟨b,t,rfl⟩
 | .str,⟨b,h⟩=>by subst h;obtain⟨t,rfl⟩:=rx;exact⟨b,t,rfl⟩
 | .lst,⟨a,xs,h,q⟩=>by
  subst h;cases rx
  obtain⟨its,r1,l1,_⟩:=I.list q
  exact⟨a,_,rfl,l1.isList⟩
 | .tup,⟨a,xs,h,q⟩=>by
  subst h;cases rx
  obtain⟨its,r1,l1,_⟩:=I.tuple q
  exact⟨a,_,rfl,l1⟩
theorem Lk {X:Cx}{pins:List (Addr×Obj)}{σ:St}{H:Hp}{s:Shared}{x:V}(I:Inv X pins σ H s):∀{j k:Kd},j.dis k=true->KdX X.K H x j->KdX X.K H x k->False
 | .non, .bl,_,h1,h2=>by
  have e1:x= .non:=h1
  obtain⟨b2,e2⟩:=h2
  rw[e1] at e2;cases e2
 | .non, .int,_,h1,h2=>by
  have e1:x= .non:=h1
  obtain⟨b2,e2⟩:=h2
  rw[e1] at e2;cases e2
 | .non, .str,_,h1,h2=>by
  have e1:x= .non:=h1
  obtain⟨b2,e2⟩:=h2
  rw[e1] at e2;cases e2
 | .non, .lst,_,h1,h2=>by
  have e1:x= .non:=h1
  obtain⟨a2,xs2,e2,q2⟩:=h2
  rw[e1] at e2;cases e2
 | .non, .tup,_,h1,h2=>by
  have e1:x= .non:=h1
  obtain⟨a2,xs2,e2,q2⟩:=h2
  rw[e1] at e2;cases e2
 | .bl, .non,_,h1,h2=>by
  obtain⟨b1,e1⟩:=h1
  have e2:x= .non:=h2
  rw[e1] at e2;cases e2
 | .bl, .str,_,h1,h2=>by
  obtain⟨b1,e1⟩:=h1
  obtain⟨b2,e2⟩:=h2
  rw[e1] at e2;cases e2
 | .bl, .lst,_,h1,h2=>by
  obtain⟨b1,e1⟩:=h1
  obtain⟨a2,xs2,e2,q2⟩:=h2
  rw[e1] at e2;cases e2
 | .bl, .tup,_,h1,h2=>by
  obtain⟨b1,e1⟩:=h1
  obtain⟨a2,xs2,e2,q2⟩:=h2
  rw[e1] at e2;cases e2
 | .int, .non,_,h1,h2=>by
  obtain⟨b1,e1⟩:=h1
  have e2:x= .non:=h2
  rw[e1] at e2;cases e2
 | .int, .str,_,h1,h2=>by
  obtain⟨b1,e1⟩:=h1
  obtain⟨b2,e2⟩:=h2
  rw[e1] at e2;cases e2
 | .int, .lst,_,h1,h2=>by
  obtain⟨b1,e1⟩:=h1
  obtain⟨a2,xs2,e2,q2⟩:=h2
  rw[e1] at e2;cases e2
 | .int, .tup,_,h1,h2=>by
  obtain⟨b1,e1⟩:=h1
  obtain⟨a2,xs2,e2,q2⟩:=h2
  rw[e1] at e2;cases e2
 | .str, .non,_,h1,h2=>by
  obtain⟨b1,e1⟩:=h1
  have e2:x= .non:=h2
  rw[e1] at e2;cases e2
 | .str, .bl,_,h1,h2=>by
  obtain⟨b1,e1⟩:=h1
  obtain⟨b2,e2⟩:=h2
  rw[e1] at e2;cases e2
 | .str, .int,_,h1,h2=>by
  obtain⟨b1,e1⟩:=h1
  obtain⟨b2,e2⟩:=h2
  rw[e1] at e2;cases e2
 | .str, .lst,_,h1,h2=>by
  obtain⟨b1,e1⟩:=h1
  obtain⟨a2,xs2,e2,q2⟩:=h2
  rw[e1] at e2;cases e2
 | .str, .tup,_,h1,h2=>by
  obtain⟨b1,e1⟩:=h1
  obtain⟨a2,xs2,e2,q2⟩:=h2
  rw[e1] at e2;cases e2
 | .lst, .non,_,h1,h2=>by
  obtain⟨a1,xs1,e1,q1⟩:=h1
  have e2:x= .non:=h2
  rw[e1] at e2;cases e2
 | .lst, .bl,_,h1,h2=>by
  obtain⟨a1,xs1,e1,q1⟩:=h1
  obtain⟨b2,e2⟩:=h2
  rw[e1] at e2;cases e2
 | .lst, .int,_,h1,h2=>by
  obtain⟨a1,xs1,e1,q1⟩:=h1
  obtain⟨b2,e2⟩:=h2
  rw[e1] at e2;cases e2
 | .lst, .str,_,h1,h2=>by
  obtain⟨a1,xs1,e1,q1⟩:=h1
  obtain⟨b2,e2⟩:=h2
  rw[e1] at e2;cases e2
 | .lst, .tup,_,h1,h2=>by
  obtain⟨a1,xs1,e1,q1⟩:=h1
  obtain⟨a2,xs2,e2,q2⟩:=h2
  rw[e1] at e2;cases e2
  obtain⟨i1,_,l1,_⟩:=I.list q1
  obtain⟨i2,_,l2,_⟩:=I.tuple q2
  exact SeqAt.ne_of_list_tuple l1.isList l2 rfl
 | .tup, .non,_,h1,h2=>by
  obtain⟨a1,xs1,e1,q1⟩:=h1
  have e2:x= .non:=h2
  rw[e1] at e2;cases e2
 | .tup, .bl,_,h1,h2=>by
  obtain⟨a1,xs1,e1,q1⟩:=h1
  obtain⟨b2,e2⟩:=h2
  rw[e1] at e2;cases e2
 | .tup, .int,_,h1,h2=>by
  obtain⟨a1,xs1,e1,q1⟩:=h1
  obtain⟨b2,e2⟩:=h2
  rw[e1] at e2;cases e2
 | .tup, .str,_,h1,h2=>by
  obtain⟨a1,xs1,e1,q1⟩:=h1
  obtain⟨b2,e2⟩:=h2
  rw[e1] at e2;cases e2
 | .tup, .lst,_,h1,h2=>by
  obtain⟨a1,xs1,e1,q1⟩:=h1
  obtain⟨a2,xs2,e2,q2⟩:=h2
  rw[e1] at e2;cases e2
  obtain⟨i1,_,l1,_⟩:=I.list q2
  obtain⟨i2,_,l2,_⟩:=I.tuple q1
  exact SeqAt.ne_of_list_tuple l1.isList l2 rfl
 | .non, .non,h,_,_=>absurd h Bool.false_ne_true
 | .bl, .bl,h,_,_=>absurd h Bool.false_ne_true
 | .bl, .int,h,_,_=>absurd h Bool.false_ne_true
 | .int, .bl,h,_,_=>absurd h Bool.false_ne_true
 | .int, .int,h,_,_=>absurd h Bool.false_ne_true
 | .str, .str,h,_,_=>absurd h Bool.false_ne_true
 | .lst, .lst,h,_,_=>absurd h Bool.false_ne_true
 | .tup, .tup,h,_,_=>absurd h Bool.false_ne_true
theorem Kc {s:Shared}{A:Around}{v u:Value}(hu:A.units<cLine):∀{j k:Kd},j.dis k=true->KdV s v j->KdV s u k->SeqAt.EqAt A s v u false/\SeqAt.RcAt A s v u false/\SeqAt.RcNeAt A s v u true
 | .non, .non,h,_,_=>absurd h Bool.false_ne_true
 | .non, .bl,_,h1,h2=>by
  cases(show _=Value.none from h1)
  obtain⟨b2,rfl⟩:=h2
  exact⟨SeqAt.EqAt.none_bool b2,SeqAt.RcAt.none_bool b2,SeqAt.RcNeAt.none_bool b2⟩
 | .non, .int,_,h1,h2=>by
  cases(show _=Value.none from h1)
  obtain⟨i2,t2,rfl⟩:=h2
  exact⟨SeqAt.EqAt.none_int i2 t2,SeqAt.RcAt.none_int i2 t2,SeqAt.RcNeAt.none_int i2 t2⟩
 | .non, .str,_,h1,h2=>by
  cases(show _=Value.none from h1)
  obtain⟨i2,t2,rfl⟩:=h2
  exact⟨SeqAt.EqAt.none_str i2 t2,SeqAt.RcAt.none_str i2 t2,SeqAt.RcNeAt.none_str i2 t2⟩
 | .non, .lst,_,h1,h2=>by
  cases(show _=Value.none from h1)
  obtain⟨l2,is2,rfl,q2⟩:=h2
  exact⟨SeqAt.EqAt.none_list q2 hu,SeqAt.RcAt.none_list q2 hu,SeqAt.RcNeAt.none_list q2 hu⟩
 | .non, .tup,_,h1,h2=>by
  cases(show _=Value.none from h1)
  obtain⟨l2,is2,rfl,q2⟩:=h2
  exact⟨SeqAt.EqAt.none_tuple q2 hu,SeqAt.RcAt.none_tuple q2 hu,SeqAt.RcNeAt.none_tuple q2 hu⟩
 | .bl, .non,_,h1,h2=>by
  obtain⟨b1,rfl⟩:=h1
  cases(show _=Value.none from h2)
  exact⟨SeqAt.EqAt.bool_none b1,SeqAt.RcAt.bool_none b1,SeqAt.RcNeAt.bool_none b1⟩
 | .bl, .bl,h,_,_=>absurd h Bool.false_ne_true
 | .bl, .int,h,_,_=>absurd h Bool.false_ne_true
 | .bl, .str,_,h1,h2=>by
  obtain⟨b1,rfl⟩:=h1
  obtain⟨i2,t2,rfl⟩:=h2
  exact⟨SeqAt.EqAt.bool_str b1 i2 t2,SeqAt.RcAt.bool_str b1 i2 t2,SeqAt.RcNeAt.bool_str b1 i2 t2⟩
 | .bl, .lst,_,h1,h2=>by
  obtain⟨b1,rfl⟩:=h1
  obtain⟨l2,is2,rfl,q2⟩:=h2
  exact⟨SeqAt.EqAt.bool_list b1 q2 hu,SeqAt.RcAt.bool_list b1 q2 hu,SeqAt.RcNeAt.bool_list b1 q2 hu⟩
 | .bl, .tup,_,h1,h2=>by
  obtain⟨b1,rfl⟩:=h1
  obtain⟨l2,is2,rfl,q2⟩:=h2
  exact⟨SeqAt.EqAt.bool_tuple b1 q2 hu,SeqAt.RcAt.bool_tuple b1 q2 hu,SeqAt.RcNeAt.bool_tuple b1 q2 hu⟩
 | .int, .non,_,h1,h2=>by
  obtain⟨i1,t1,rfl⟩:=h1
  cases(show _=Value.none from h2)
  exact⟨SeqAt.EqAt.int_none i1 t1,SeqAt.RcAt.int_none i1 t1,SeqAt.RcNeAt.int_none i1 t1⟩
 | .int, .bl,h,_,_=>absurd h Bool.false_ne_true
 | .int, .int,h,_,_=>absurd h Bool.false_ne_true
 | .int, .str,_,h1,h2=>by
  obtain⟨i1,t1,rfl⟩:=h1
  obtain⟨i2,t2,rfl⟩:=h2
  exact⟨SeqAt.EqAt.int_str i1 t1 i2 t2,SeqAt.RcAt.int_str i1 t1 i2 t2,SeqAt.RcNeAt.int_str i1 t1 i2 t2⟩
 | .int, .lst,_,h1,h2=>by
  obtain⟨i1,t1,rfl⟩:=h1
  obtain⟨l2,is2,rfl,q2⟩:=h2
  exact⟨SeqAt.EqAt.int_list i1 t1 q2 hu,SeqAt.RcAt.int_list i1 t1 q2 hu,SeqAt.RcNeAt.int_list i1 t1 q2 hu⟩
 | .int, .tup,_,h1,h2=>by
  obtain⟨i1,t1,rfl⟩:=h1
  obtain⟨l2,is2,rfl,q2⟩:=h2
  exact⟨SeqAt.EqAt.int_tuple i1 t1 q2 hu,SeqAt.RcAt.int_tuple i1 t1 q2 hu,SeqAt.RcNeAt.int_tuple i1 t1 q2 hu⟩
 | .str, .non,_,h1,h2=>by
  obtain⟨i1,t1,rfl⟩:=h1
  cases(show _=Value.none from h2)
  exact⟨SeqAt.EqAt.str_none i1 t1,SeqAt.RcAt.str_none i1 t1,SeqAt.RcNeAt.str_none i1 t1⟩
 | .str, .bl,_,h1,h2=>by
  obtain⟨i1,t1,rfl⟩:=h1
  obtain⟨b2,rfl⟩:=h2
  exact⟨SeqAt.EqAt.str_bool i1 t1 b2,SeqAt.RcAt.str_bool i1 t1 b2,SeqAt.RcNeAt.str_bool i1 t1 b2⟩
 | .str, .int,_,h1,h2=>by
  obtain⟨i1,t1,rfl⟩:=h1
  obtain⟨i2,t2,rfl⟩:=h2
  exact⟨SeqAt.EqAt.str_int i1 t1 i2 t2,SeqAt.RcAt.str_int i1 t1 i2 t2,SeqAt.RcNeAt.str_int i1 t1 i2 t2⟩
 | .str, .str,h,_,_=>absurd h Bool.false_ne_true
 | .str, .lst,_,h1,h2=>by
  obtain⟨i1,t1,rfl⟩:=h1
  obtain⟨l2,is2,rfl,q2⟩:=h2
  exact⟨SeqAt.EqAt.str_list i1 t1 q2 hu,SeqAt.RcAt.str_list i1 t1 q2 hu,SeqAt.RcNeAt.str_list i1 t1 q2 hu⟩
 | .str, .tup,_,h1,h2=>by
  obtain⟨i1,t1,rfl⟩:=h1
  obtain⟨l2,is2,rfl,q2⟩:=h2
  exact⟨SeqAt.EqAt.str_tuple i1 t1 q2 hu,SeqAt.RcAt.str_tuple i1 t1 q2 hu,SeqAt.RcNeAt.str_tuple i1 t1 q2 hu⟩
 | .lst, .non,_,h1,h2=>by
  obtain⟨l1,is1,rfl,q1⟩:=h1
  cases(show _=Value.none from h2)
  exact⟨SeqAt.EqAt.list_none q1 hu,SeqAt.RcAt.list_none q1 hu,SeqAt.RcNeAt.list_none q1 hu⟩
 | .lst, .bl,_,h1,h2=>by
  obtain⟨l1,is1,rfl,q1⟩:=h1
  obtain⟨b2,rfl⟩:=h2
  exact⟨SeqAt.EqAt.list_bool b2 q1 hu,SeqAt.RcAt.list_bool b2 q1 hu,SeqAt.RcNeAt.list_bool b2 q1 hu⟩
 | .lst, .int,_,h1,h2=>by
  obtain⟨l1,is1,rfl,q1⟩:=h1
  obtain⟨i2,t2,rfl⟩:=h2
  exact⟨SeqAt.EqAt.list_int i2 t2 q1 hu,SeqAt.RcAt.list_int i2 t2 q1 hu,SeqAt.RcNeAt.list_int i2 t2 q1 hu⟩
 | .lst, .str,_,h1,h2=>by
  obtain⟨l1,is1,rfl,q1⟩:=h1
  obtain⟨i2,t2,rfl⟩:=h2
  exact⟨SeqAt.EqAt.list_str i2 t2 q1 hu,SeqAt.RcAt.list_str i2 t2 q1 hu,SeqAt.RcNeAt.list_str i2 t2 q1 hu⟩
 | .lst, .lst,h,_,_=>absurd h Bool.false_ne_true
 | .lst, .tup,_,h1,h2=>by
  obtain⟨l1,is1,rfl,q1⟩:=h1
  obtain⟨l2,is2,rfl,q2⟩:=h2
  exact⟨SeqAt.EqAt.of_refs (SeqAt.ne_of_list_tuple q1 q2) (SeqAt.RcAt.list_tuple q1 q2 hu),SeqAt.RcAt.list_tuple q1 q2 hu,SeqAt.RcNeAt.list_tuple q1 q2 hu⟩
 | .tup, .non,_,h1,h2=>by
  obtain⟨l1,is1,rfl,q1⟩:=h1
  cases(show _=Value.none from h2)
  exact⟨SeqAt.EqAt.tuple_none q1 hu,SeqAt.RcAt.tuple_none q1 hu,SeqAt.RcNeAt.tuple_none q1 hu⟩
 | .tup, .bl,_,h1,h2=>by
  obtain⟨l1,is1,rfl,q1⟩:=h1
  obtain⟨b2,rfl⟩:=h2
  exact⟨SeqAt.EqAt.tuple_bool b2 q1 hu,SeqAt.RcAt.tuple_bool b2 q1 hu,SeqAt.RcNeAt.tuple_bool b2 q1 hu⟩
 | .tup, .int,_,h1,h2=>by
  obtain⟨l1,is1,rfl,q1⟩:=h1
  obtain⟨i2,t2,rfl⟩:=h2
  exact⟨SeqAt.EqAt.tuple_int i2 t2 q1 hu,SeqAt.RcAt.tuple_int i2 t2 q1 hu,SeqAt.RcNeAt.tuple_int i2 t2 q1 hu⟩
 | .tup, .str,_,h1,h2=>by
  obtain⟨l1,is1,rfl,q1⟩:=h1
  obtain⟨i2,t2,rfl⟩:=h2
  exact⟨SeqAt.EqAt.tuple_str i2 t2 q1 hu,SeqAt.RcAt.tuple_str i2 t2 q1 hu,SeqAt.RcNeAt.tuple_str i2 t2 q1 hu⟩
 | .tup, .lst,_,h1,h2=>by
  obtain⟨l1,is1,rfl,q1⟩:=h1
  obtain⟨l2,is2,rfl,q2⟩:=h2
  exact⟨SeqAt.EqAt.of_refs (λe=>SeqAt.ne_of_list_tuple q2 q1 e.symm) (SeqAt.RcAt.tuple_list q1 q2 hu),SeqAt.RcAt.tuple_list q1 q2 hu,SeqAt.RcNeAt.tuple_list q1 q2 hu⟩
 | .tup, .tup,h,_,_=>absurd h Bool.false_ne_true
class KdE (r:Enc α)(k:outParam Kd):Prop where
 to:∀{K:PySem.W.Frag}{H:Hp}{x:V}{a:α},r K H x a->KdX K H x k
instance:KdE Xa .int:=⟨λh=>⟨_,h⟩⟩
instance:KdE Xt .bl:=⟨λh=>⟨_,h⟩⟩
instance:KdE Yu .str:=⟨λh=>⟨_,h⟩⟩
instance {r:Enc α}:KdE (rV r) .lst:=⟨λr9=>by obtain⟨a,xs,e,q,_⟩:=r9;exact⟨a,xs,e,SqL.of q⟩⟩
instance {r:Enc α}:KdE (rPL r) .tup:=⟨λr9=>by obtain⟨a,xs,e,q,_⟩:=r9;exact⟨a,xs,e,SqT.of q⟩⟩
instance {r:Enc α}{q:Enc β}:KdE (rP2 r q) .tup:=⟨λr9=>by obtain⟨a,x,y,e,q,_⟩:=r9;exact⟨a,_,e,SqT.of q⟩⟩
instance {r:Enc α}{q:Enc β}{t:Enc γ}:KdE (rP3 r q t) .tup:=⟨λr9=>by obtain⟨a,x,y,z,e,q,_⟩:=r9;exact⟨a,_,e,SqT.of q⟩⟩
structure Crs (r:Enc α)(q:Enc β)(d:Nat):Prop where
 no:∀{X:Cx}{pins:List (Addr×Obj)}{σ:St}{H:Hp}{s:Shared}{x:V}{a:α}{b:β},Inv X pins σ H s->r X.K H x a->q X.K H x b->False
 lr:∀{X:Cx}{pins:List (Addr×Obj)}{σ:St}{H:Hp}{s:Shared}{x y:V}{v u:Value}{a:α}{b:β}{A:Around},Inv X pins σ H s->X8 x v->X8 y u->r X.K H x a->q X.K H y b->A.units+d<cLine->SeqAt.EqAt A s v u false/\SeqAt.RcAt A s v u false/\SeqAt.RcNeAt A s v u true
 rl:∀{X:Cx}{pins:List (Addr×Obj)}{σ:St}{H:Hp}{s:Shared}{x y:V}{v u:Value}{a:α}{b:β}{A:Around},Inv X pins σ H s->X8 x v->X8 y u->q X.K H x b->r X.K H y a->A.units+d<cLine->SeqAt.EqAt A s v u false/\SeqAt.RcAt A s v u false/\SeqAt.RcNeAt A s v u true
theorem Crs.up {r:Enc α}{q:Enc β}{d e:Nat}(c:Crs r q d)(h:d<=e):Crs r q e:=⟨c.no,λI rx ry h1 h2 hu=>c.lr I rx ry h1 h2 (by (first|lia|omega)),λI rx ry h1 h2 hu=>c.rl I rx ry h1 h2 (by (first|lia|omega))⟩
theorem Iv {r:Enc α}{q:Enc β}{j k:Kd}[m:KdE r j][n:KdE q k](h:j.dis k=true)(h':k.dis j=true):Crs r q 0:=
 ⟨λI h1 h2=>Lk I h (m.to h1) (n.to h2),λI rx ry h1 h2 hu=>Kc (by (first|lia|omega)) h (kdV I rx (m.to h1)) (kdV I ry (n.to h2)),λI rx ry h1 h2 hu=>Kc (by (first|lia|omega)) h' (kdV I rx (n.to h1)) (kdV I ry (m.to h2))⟩
theorem Ib [DecidableEq α][DecidableEq β]{r:Enc α}{q:Enc β}{d:Nat}[m:MonoE r][n:MonoE q](E:EqOk r d)(F:EqOk q d)(c:Crs r q d):EqOk (rEi r q) d where
 uniq:=fun {X pins σ H s x a b} I h1 h2=>by
  cases a with
  |inl a=>cases b with
   |inl b=>rw[E.uniq I h1 h2]
   |inr b=>exact(c.no I h1 h2).elim
  |inr a=>cases b with
   |inl b=>exact(c.no I h2 h1).elim
   |inr b=>rw[F.uniq I h1 h2]
 eq:=fun {X pins σ H s x y v u a b A} I rx ry h1 h2 hu=>by
  cases a with
  |inl a=>cases b with
   |inl b=>have:=E.eq I rx ry h1 h2 hu;simpa using this
   |inr b=>have:=(c.lr I rx ry h1 h2 hu).1;simpa using this
  |inr a=>cases b with
   |inl b=>have:=(c.rl I rx ry h1 h2 hu).1;simpa using this
   |inr b=>have:=F.eq I rx ry h1 h2 hu;simpa using this
 rc:=fun {X pins σ H s x y v u a b A} I rx ry h1 h2 hu=>by
  cases a with
  |inl a=>cases b with
   |inl b=>have:=E.rc I rx ry h1 h2 hu;simpa using this
   |inr b=>have:=(c.lr I rx ry h1 h2 hu).2.1;simpa using this
  |inr a=>cases b with
   |inl b=>have:=(c.rl I rx ry h1 h2 hu).2.1;simpa using this
   |inr b=>have:=F.rc I rx ry h1 h2 hu;simpa using this
 ne:=fun {X pins σ H s x y v u a b A} I rx ry h1 h2 hu=>by
  cases a with
  |inl a=>cases b with
   |inl b=>have:=E.ne I rx ry h1 h2 hu;simpa using this
   |inr b=>have:=(c.lr I rx ry h1 h2 hu).2.2;simpa using this
  |inr a=>cases b with
   |inl b=>have:=(c.rl I rx ry h1 h2 hu).2.2;simpa using this
   |inr b=>have:=F.ne I rx ry h1 h2 hu;simpa using this
 keep:=λs q=>MonoE.mono s q
theorem B2 {a b:Str}:(a==b)=decide (a=b):=by rw[Bool.eq_iff_iff];simp
theorem IY:EqOk Yu 0 where
 uniq:=λ_ h1 h2=>by
  have h1':_=V.str _:=h1
  have h2':_=V.str _:=h2
  rw[h1'] at h2';injection h2'
 eq:=fun {X pins σ H s x y v u a b A} I rx ry h1 h2 _=>by
  have h1':x=V.str a:=h1
  have h2':y=V.str b:=h2
  subst h1' h2'
  obtain⟨t,rfl⟩:=rx
  obtain⟨t',rfl⟩:=ry
  rw[←B2];exact SeqAt.EqAt.str_str a t b t'
 rc:=fun {X pins σ H s x y v u a b A} I rx ry h1 h2 _=>by
  have h1':x=V.str a:=h1
  have h2':y=V.str b:=h2
  subst h1' h2'
  obtain⟨t,rfl⟩:=rx
  obtain⟨t',rfl⟩:=ry
  rw[←B2];exact SeqAt.RcAt.str_str a t b t'
 ne:=fun {X pins σ H s x y v u a b A} I rx ry h1 h2 _=>by
  have h1':x=V.str a:=h1
  have h2':y=V.str b:=h2
  subst h1' h2'
  obtain⟨t,rfl⟩:=rx
  obtain⟨t',rfl⟩:=ry
  rw[←B2];exact SeqAt.RcNeAt.str_str a t b t'
 keep:=λ_ h=>h
end
section
variable {K:PySem.W.Frag}{Er:Exc->Hp->Prop}{S:SC}{OO OO' OO1 OO2:List (List XA)}{σ:St}{α β γ ρ ι δ ε ζ:Type}
variable {Fd:Ends->β->Hp->Prop}[fd:FdOk Fd]{u:TS}
noncomputable def getL:α ⊕ γ->Rs α
 | .inl a=>.ok a
 | .inr _=>.bad
noncomputable def getR:α ⊕ γ->Rs γ
 | .inl _=>.bad
 | .inr b=>.ok b
noncomputable def Lj:Enc V:=λ_ H v y=>∃ a x,v= .ref a/\H a=some (.tup [x,y])
instance:FlatE Lj:=⟨λs r9=>by obtain⟨a,x,e,h⟩:=r9;exact⟨a,x,e,s _ _ h rfl⟩⟩
theorem Hj {v y:V}(i:Nat)(hσ:σ[i]?=some (some v))(h:∀x,S.p x->Lj K x v y):∀(H:Hp) (Q:VK),W OO H->S.p (hid H OO)->Q y H->(tOp (Bo K) (QD i) (tC (.int 1))) σ H Q:=λH Q w s q=>by
 obtain⟨a,x,e,hp⟩:=h _ s
 exact⟨v,hσ,a,_,1,y,e,rfl,SqT.of (XB _ _ hp),rfl,q⟩
theorem F6 {ta tl:TE}{o:OE α}[MonoO o]{m:Rs α}{f:List α->Rs β}{v:V}{as:List α}{C:List XA}(k:Nat)(hte:∀(H:Hp) (Q:VK),W OO H->S.p (hid H OO)->Q v H->tl σ H Q)(hk:OO[k]?=some C)(hk':OO'[k]?=some C)(h:∀x,S.p x->oL o K x v as C)(he:Ev K Er S OO OO' σ ta o m)
  (hr:∀a C',Sv Er (S.addO K (oL o) v (as++[a]) C') (OO'.set k C') σ u Fd (f (as++[a]))):Sv Er S OO σ (Qr (Jd (tBM K "list" Q4 tl (XT ta ZQ))) u) Fd (m.bind λa=>chk (as.length<sizeLine) (f (as++[a]))):=λH D w s P=>by
 obtain⟨p,xs,Cs,e,q,c⟩:=h _ s
 subst c
 have hH:H p=some (.lst xs):=w.tr (p, .lst xs) (List.mem_flatten.mpr ⟨_,List.mem_of_getElem? hk,List.mem_cons_self⟩)
 refine hte _ _ w s ⟨by rw[e];exact .inl ⟨rfl,_,SqL.of hH⟩,he.st w s P λa y D' H' w' s' ho P'=>?_⟩
 obtain⟨p',xs',Cs',e2,q2,c2⟩:=h _ s'
 rw[e] at e2;cases e2
 have c3:(p,HO.lst xs)=(p,HO.lst xs')/\Cs.flatten=Cs'.flatten:=by
  injection c2 with h1 h2
  exact⟨h1,h2⟩
 obtain⟨c3,c4⟩:=c3
 cases c3
 have hH':H' p=some (.lst xs):=w'.tr (p, .lst xs) (by rw[List.flatten_cons];exact List.mem_append_right _ (List.mem_flatten.mpr ⟨_,List.mem_of_getElem? hk',List.mem_cons_self⟩))
 cases hlt:decide (as.length<sizeLine) with
 |false=>rw[chk,if_neg (by simpa using hlt)] at P';exact P'.elim
 |true=>
  have hlt':as.length<sizeLine:=by simpa using hlt
  rw[XG hlt'] at P'
  have wnd:=w'.nd
  have hcell:∀c∈(p,HO.lst (xs++[y]))::(Cs'++[D']).flatten,upd H' p (.lst (xs++[y])) c.1=some c.2:=λc hc=>by
   rcases List.mem_cons.mp hc with rfl |hc
   ·exact XL
   ·have hp1:=X0 hk'
    have w3:W [D'++(((p,HO.lst xs)::Cs.flatten)++(OO'.set k []).flatten)] H':=w'.of (by
     simp only[List.flatten_cons,List.flatten_nil,List.append_nil]
     exact(by simpa using hp1:(((p,HO.lst xs)::Cs.flatten)++(OO'.set k []).flatten).Perm OO'.flatten).append_left D')
    have hin:c∈D'++(((p,HO.lst xs)::Cs.flatten)++(OO'.set k []).flatten):=by
     rw[YT,List.mem_append] at hc
     rcases hc with hc |hc
     ·rw[←c4] at hc;simp[hc]
     ·simp[hc]
    have hne:c.1≠p:=λee=>by
     have nd3:=w3.nd
     rw[YT,List.mem_append, ←c4] at hc
     simp only[fl,List.flatten_cons,List.flatten_nil,List.append_nil,List.map_append,List.cons_append,List.map_cons] at nd3
     rw[List.nodup_append] at nd3
     obtain⟨_,n2,n3⟩:=nd3
     rcases hc with hc |hc
     ·exact(List.nodup_cons.mp n2).1 (List.mem_append_left _ (List.mem_map.mpr ⟨c,hc,ee⟩))
     ·exact n3 c.1 (List.mem_map.mpr ⟨c,hc,rfl⟩) p List.mem_cons_self ee
    rw[Xv hne]
    exact w3.tr c (by simpa using hin)
  obtain⟨w4,h4⟩:=LS (C':=(p, .lst (xs++[y]))::(Cs'++[D']).flatten) w' hk' List.mem_cons_self (by simp[YT,c4]) hcell (λc hc=>by
   rcases List.mem_cons.mp hc with rfl |hc
   ·rfl
   ·rw[YT,List.mem_append, ←c4] at hc
    rcases hc with hc |hc
    ·exact w'.mu c (by rw[List.flatten_cons];exact List.mem_append_right _ (List.mem_flatten.mpr ⟨_,List.mem_of_getElem? hk',List.mem_cons_of_mem _ hc⟩))
    ·exact w'.mu c (by rw[List.flatten_cons];exact List.mem_append_left _ hc))
  refine⟨p,xs,y,e,rfl,hH',by rw[(P3.len q).1];exact hlt',?_⟩
  refine hr a _ _ D w4 ?_ (by rw[h4];exact P')
  rw[h4]
  exact⟨s',⟨p,xs++[y],Cs'++[D'],e,q2.snoc ho,rfl⟩⟩
end
end L2
namespace L2
theorem Ih {α:Type}{us:List α}(h:us.length=1):∃a,us=[a]:=List.length_eq_one_iff.mp h
theorem En {α:Type}{us:List α}(h:us.length=2):∃a0 a1,us=[a0,a1]:=by
 cases us with
 |nil=>cases h
 |cons a0 t=>
  obtain⟨a1,rfl⟩:=Ih (Nat.succ.inj h)
  exact⟨a0,a1,rfl⟩
theorem Ie {α:Type}{us:List α}(h:us.length=3):∃a0 a1 a2,us=[a0,a1,a2]:=by
 cases us with
 |nil=>cases h
 |cons a0 t=>
  obtain⟨a1,a2,rfl⟩:=En (Nat.succ.inj h)
  exact⟨a0,a1,a2,rfl⟩
theorem Lz {α:Type}{us:List α}(h:us.length=4):∃a0 a1 a2 a3,us=[a0,a1,a2,a3]:=by
 cases us with
 |nil=>cases h
 |cons a0 t=>
  obtain⟨a1,a2,a3,rfl⟩:=Ie (Nat.succ.inj h)
  exact⟨a0,a1,a2,a3,rfl⟩
end L2
namespace L2
open PySem PySem.Spec PyProof.Rows
section
variable {prog:Program}{w:World}{A:Around}{E:Value->Shared->Prop}
end
section
variable {X:Cx}{pos:Pos}
end
section
variable {K:PySem.W.Frag}{Er:Exc->Hp->Prop}{S:SC}{OO OO' OO1 OO2:List (List XA)}{σ:St}{α β γ ρ ι δ ε ζ:Type}
variable {Fd:Ends->β->Hp->Prop}[fd:FdOk Fd]{u:TS}
theorem HN [DecidableEq α]{r:Enc α}{k:Kd}{d:Nat}[m:MonoE r][n:KdE r k](h:Kd.non.dis k=true)(h':k.dis Kd.non=true)(E:EqOk r d):EqOk (Y0 r) d where
 uniq:=fun {X pins σ H s x a b} I h1 h2=>by
  cases a with
  |none=>cases b with
   |none=>rfl
   |some b=>exact absurd h1 h2.1
  |some a=>cases b with
   |none=>exact absurd h2 h1.1
   |some b=>rw[E.uniq I h1.2 h2.2]
 eq:=fun {X pins σ H s x y v u a b A} I rx ry h1 h2 hu=>by
  cases a with
  |none=>cases b with
   |none=>
    cases(show x= .non from h1);cases(show y= .non from h2);cases rx;cases ry
    exact SeqAt.EqAt.same _
   |some b=>simpa using (Kc (A:=A) (by (first|lia|omega)) h (kdV I rx (show KdX X.K H x .non from h1)) (kdV I ry (n.to h2.2))).1
  |some a=>cases b with
   |none=>simpa using (Kc (A:=A) (by (first|lia|omega)) h' (kdV I rx (n.to h1.2)) (kdV I ry (show KdX X.K H y .non from h2))).1
   |some b=>simpa using E.eq I rx ry h1.2 h2.2 hu
 rc:=fun {X pins σ H s x y v u a b A} I rx ry h1 h2 hu=>by
  cases a with
  |none=>cases b with
   |none=>
    cases(show x= .non from h1);cases(show y= .non from h2);cases rx;cases ry
    exact SeqAt.RcAt.none_none
   |some b=>simpa using (Kc (A:=A) (by (first|lia|omega)) h (kdV I rx (show KdX X.K H x .non from h1)) (kdV I ry (n.to h2.2))).2.1
  |some a=>cases b with
   |none=>simpa using (Kc (A:=A) (by (first|lia|omega)) h' (kdV I rx (n.to h1.2)) (kdV I ry (show KdX X.K H y .non from h2))).2.1
   |some b=>simpa using E.rc I rx ry h1.2 h2.2 hu
 ne:=fun {X pins σ H s x y v u a b A} I rx ry h1 h2 hu=>by
  cases a with
  |none=>cases b with
   |none=>
    cases(show x= .non from h1);cases(show y= .non from h2);cases rx;cases ry
    exact SeqAt.RcNeAt.none_none
   |some b=>simpa using (Kc (A:=A) (by (first|lia|omega)) h (kdV I rx (show KdX X.K H x .non from h1)) (kdV I ry (n.to h2.2))).2.2
  |some a=>cases b with
   |none=>simpa using (Kc (A:=A) (by (first|lia|omega)) h' (kdV I rx (n.to h1.2)) (kdV I ry (show KdX X.K H y .non from h2))).2.2
   |some b=>simpa using E.ne I rx ry h1.2 h2.2 hu
 keep:=λs q=>MonoE.mono s q
theorem Kt {te:TE}{r:Enc α}{n:String}[z:TyE r n]{m:Rs (Option α)}(t:String)(b c:Bool)(hk:PySem.W.kitOne K (.type n) (.type t)=some b)(hc:PySem.W.kitOne K (.type "NoneType") (.type t)=some c)(he:EvB K Er S OO σ te (Y0 r) m):
  EvB K Er S OO σ (tCB (λxs H Q=>∃ x n t b,xs=[x, .ty n]/\TyOf K H x t/\PySem.W.kitOne K t (.type n)=some b/\Q (.bl b) H) (XT te (XT (tC (.ty t)) ZQ))) Xt (m.bind λa=>.ok (if a.isSome=true then b else c)):=λH Q w s P=>
 he.run w s FB.tr P λa x H1 s1 w1 q1 r1 P1=>by
  cases a with
  |none=>
   have e:x= .non:=r1
   subst e
   exact⟨_,t, .type "NoneType",c,rfl, .non,hc,P1 _ H1 (Xw.refl _) rfl⟩
  |some a=>exact⟨x,t, .type n,b,rfl,z.ty r1.2,hk,P1 _ H1 (Xw.refl _) rfl⟩
theorem Vu (K:PySem.W.Frag):PySem.W.kitOne K (.type "NoneType") (.type "tuple")=some false:=by
 first
  |rfl
  |decide+kernel
  | (unfold PySem.W.kitOne PySem.W.kitCls;rfl)
theorem JS {r:Enc α}:Ev K Er S OO OO σ (tC .non) (oF (Y0 r)) (.ok none):=λH Q w s P=>P _ [] H (Xw.refl _) w.nil (by rw[YO];exact Xw.refl _) ⟨rfl,rfl⟩
theorem Zb {te:TE}{r:Enc α}{m:Rs α}(hn:∀{K h v a C},oF r K h v a C->v≠ .non)(he:Ev K Er S OO OO' σ te (oF r) m):Ev K Er S OO OO' σ te (oF (Y0 r)) (m.bind λa=>.ok (some a)):=λH Q w s P=>by
 refine he H Q w s ?_
 cases m with
 |bad=>exact P
 |err x=>exact P
 |ok a=>exact λv C H' s' w' m' ho=>P v C H' s' w' m' ⟨ho.1,hn ho,ho.2⟩
end
section
variable {X:Cx}
end
section
variable {K:PySem.W.Frag}{Er:Exc->Hp->Prop}{S:SC}{OO OO' OO1 OO2:List (List XA)}{σ:St}{α β γ ρ ι δ ε ζ:Type}
variable {Fd:Ends->β->Hp->Prop}[fd:FdOk Fd]{u:TS}
end
set_option maxRecDepth 100000
section
variable {prog:Program}{w:World}{A:Around}{E:Value->Shared->Prop}{s:Shared}
theorem KO:typeLookup (.type "list") "keys" =pure none:=by rw[typeLookup_type,builtinLookup_eq_fast];kernel_rfl
theorem CF {a:Addr}{o:Obj}{xs:Array Value}{k:Nat}{R:Option Value->Shared->Prop}(hx:s.heap.get? a=some o)(hc:o.cls= .type "list")(hdat:o.data= .seq xs k)(hd:o.dict=none)(hA:A.handled=none)
    (h:∀g tk,(∀b u,s.heap.get? b=some u->g.get? b=some u)->R none {s with heap:=g,toks:=tk}):wpAny (model prog w) A (getAttr? (.ref a) "keys") R E s:=by
  obtain⟨c,dct,dat,sl⟩:=o
  simp only at hc hdat hd
  subst hc hdat hd
  obtain⟨hp,g,d,tk,os⟩:=s
  have hT:∀tk',(⟨hp,g,d,tk',os⟩:Shared).TypeIs (.ref a) "list":=λ_=>⟨_,hx,rfl⟩
  have f1:=sub_AttributeError
  have f3:=F.slot_list_getattribute.lookup
  have f4:=F.slot_list_getattribute.bind (.ref a)
  have f5:=am_list_getattr_none
  unfold getAttr? getAttrBy? getAttrBy
  repeat (any_goals (first
    |assumption
    |exact hT _
    | ((with_reducible show wpAny _ _ (call (Value.builtin "list.__getattribute__") _ _) _ _ _)
       refine call_meets F.slot_list_getattribute (hT _) am_entry_list_getattribute (F.args_list_getattribute_2 _ _) (meets_getattribute_miss_list a xs k sl "keys" _ KO (by decide+kernel)) ⟨hx,hA,λh' tk' e hx'=>?_⟩)
    |wp_step))
  obtain⟨t',u',he⟩:=hx'.there
  show wpAny _ _ (getattributeRaised _ _ _ _ _ _ _) _ _ _
  unfold getattributeRaised
  repeat (any_goals (first |wp_step |assumption))
  exact h _ _ hx'.keeps
theorem ZT:plainId "dict.update.loop" =true:=by decide+kernel
theorem JP:entryFor table "dict.update.loop" =some Builtin.«dict.update.loop»:=entryFor_of_fast (by kernel_rfl)
end
section
variable {prog:Program}{w:World}{A:Around}{R:Result->Shared->Prop}{K:Type}[DecidableEq K]{knd:KeyKind prog w K}
noncomputable def EW (knd:KeyKind prog w K)(h:Heap)(its:Array Value)(kv:List (K×Value)):Prop:=its.size=kv.length/\∀(j:Nat) (x:Value) (p:K×Value),its[j]?=some x->kv[j]?=some p->∃t key,x= .ref t/\h.IsTuple t #[key,p.2]/\knd.is p.1 key=true
noncomputable def UC (acc kv:List (K×Value)):List (K×Value):=kv.foldl (λa p=>stored a p.1 p.2) acc
theorem GN (acc:List (K×Value))(k:K)(v:Value):(stored acc k v).length<=acc.length+1:=by
 unfold stored
 split
 ·simp
 ·simp
theorem U3 {h:Heap}{t I l:Addr}{i:Nat}{xs:Array Value}(ht:h.IsTuple t xs)(it:h.IsListIter I l i):t≠I:=λe=>by
 subst e
 obtain⟨o,ho,hc,_⟩:=ht
 obtain⟨o',ho',hc',_⟩:=it
 rw[ho] at ho'
 cases ho'
 rw[hc] at hc'
 exact absurd hc' (by decide)
theorem DO {h:Heap}{t d:Addr}{xs:Array Value}{acc:List (K×Value)}(ht:h.IsTuple t xs)(hd:h.DictOf knd d acc):t≠d:=λe=>by
 subst e
 obtain⟨o,ho,hc,_⟩:=ht
 obtain⟨o',_,_,ho',hc',_⟩:=hd
 rw[ho] at ho'
 cases ho'
 have:=hc'.1
 rw[hc] at this
 exact absurd this (by decide)
theorem Lm (hh:A.in1.handled=none){d I l:Addr}(hdI:d≠I)(hlI:l≠I)(hld:l≠d){its:Array Value}{kv:List (K×Value)}:
  ∀(k i:Nat) (s:Shared) (acc:List (K×Value)),its.size-i=k->i<=its.size->s.heap.IsListIter I l i->s.heap.IsList l its->EW knd s.heap its kv->s.heap.DictOf knd d acc->acc.length+its.size<=sizeLine+i->
  (∀g tk,g.DictOf knd d (UC acc (kv.drop i))->(∀b o,b≠I->b≠d->s.heap.get? b=some o->g.get? b=some o)->R (.ok (.ret .none)) {s with heap:=g,toks:=tk})->
  codeAny (model prog w) A (.builtin "dict.update.loop" ⟨[.ref d, .ref I,rawInt i, .none],[]⟩) R s:=by
 intro k
 induction k with
 |zero=>
  intro i s acc hk hi it hl hp hd hz r
  refine codeAny_builtin JP ?_
  rw[Around.under_plainId ZT _]
  show wpAny _ A.in1 (pyNext (.ref I) >>= _) _ _ s
  refine wpAny_bind (wpAny_pyNext_list_end hh it hl (by simp;(first|lia|omega)) λg hx=>?_)
  show wpAny _ _ (Builtin.Dict.addKeywords d [] >>= λ_=>ret Value.none) _ _ _
  refine wpAny_bind (wpAny_pure (wpAny_pure (r g s.toks ?_ λb o hb _ e=>hx b o hb e)))
  have e:kv.drop i=[]:=List.drop_eq_nil_of_le (by have:=hp.1;(first|lia|omega))
  rw[e]
  exact hd.extBut hx hdI
 |succ k ih=>
  intro i s acc hk hi it hl hp hd hz r
  have lt:i<its.size:=by (first|lia|omega)
  refine codeAny_builtin JP ?_
  rw[Around.under_plainId ZT _]
  show wpAny _ A.in1 (pyNext (.ref I) >>= _) _ _ s
  refine wpAny_bind (wpAny_pyNext_list_item it hl (x:=its[i]) (by simp[lt]) λg it' hx=>?_)
  have lt2:i<kv.length:=by have:=hp.1;(first|lia|omega)
  obtain⟨t,key,et,ht,hkey⟩:=hp.2 i its[i] kv[i] (by simp[lt]) (by simp[lt2])
  have htI:t≠I:=U3 ht it
  have ht1:g.IsTuple t #[key,kv[i].2]:=ht.extBut hx.extBut htI
  obtain⟨o,ho,hc,n,hdt⟩:=id ht1
  rw[et]
  show wpAny _ _ (holding [Value.ref t] _ >>= λ_=>again (.builtin "dict.update.loop" ⟨[.ref d, .ref I,rawInt ((i:Int)+1), .none],[]⟩)) _ _ _
  refine wpAny_bind (wpAny_holding ?_)
  refine wpAny_bind (wpAny_tryCatch ?_)
  unfold Builtin.Dict.pairItems
  refine wpAny_bind (wpAny_typeOf (s:={s with heap:=g}) ⟨o,ho,hc⟩ ?_)
  rw[if_pos (by decide)]
  refine wpAny_bind (wpAny_seqItems (s:={s with heap:=g}) ho hdt (wpAny_pure ?_))
  show wpAny _ _ (holding [key,kv[i].2] (dictSet d key kv[i].2)) _ _ _
  refine wpAny_holding (wpAny_dictSet_pairs (s:={s with heap:=g}) hkey (hd.extBut hx.extBut hdI) (λg2 hd2 hx2=>?_) (by (first|lia|omega)))
  refine wpAny_pure ⟨plainId_quiet ZT _,?_⟩
  have hne:∀{b:Addr}{u:Obj},s.heap.get? b=some u->b≠I->b≠d->g2.get? b=some u:=fun {b u} e h1 h2=>(hx2.2 b h2).trans (hx.extBut b u h1 e)
  refine ih (i+1) {s with heap:=g2,toks:=s.toks+1} (stored acc kv[i].1 kv[i].2) (by (first|lia|omega)) (by (first|lia|omega)) ?_ ?_ ?_ hd2 ?_ ?_
  ·exact it'.extBut hx2.extBut (λe=>hdI e.symm)
  ·exact(hl.extBut hx.extBut hlI).extBut hx2.extBut hld
  ·refine⟨hp.1,λj x p h1 h2=>?_⟩
   obtain⟨t2,key2,e2,ht2,hk2⟩:=hp.2 j x p h1 h2
   exact⟨t2,key2,e2,(ht2.extBut hx.extBut (U3 ht2 it)).extBut hx2.extBut (DO ht2 hd),hk2⟩
  ·have:=GN acc kv[i].1 kv[i].2
   (first|lia|omega)
  ·intro g3 tk hd3 kp
   refine r g3 tk ?_ λb o h1 h2 e=>kp b o h1 h2 (hne e h1 h2)
   rw[List.drop_eq_getElem_cons lt2]
   exact hd3
theorem G2 (hh:A.handled=none){E:Value->Shared->Prop}{s:Shared}{l:Addr}{o:Obj}{n:Nat}{its:Array Value}{kv:List (K×Value)}{Q:Value->Shared->Prop}(hx:s.heap.get? l=some o)(hc:o.cls= .type "list")(hdat:o.data= .seq its n)(hd:o.dict=none)(hp:EW knd s.heap its kv)(hz:its.size<=sizeLine)
  (r:∀g tk,g.DictOf knd s.heap.objs.size (UC [] kv)->(∀b u,s.heap.get? b=some u->g.get? b=some u)->Q (.ref s.heap.objs.size) {s with heap:=g,toks:=tk}):wpAny (model prog w) A (call (.type "dict") [.ref l]) Q E s:=by
 refine callType_codes (Q₁:=λobj s₁=>obj= .ref s.heap.objs.size/\s₁={s with heap:=s.heap.push {cls:=.type "dict",data:=.dict #[]}}) F.kt_called_dict (F.kt_typeCall_dict_1 _) F.entry_dict_init (kt_code_dict_new _ ⟨rfl,rfl⟩) ?_
 rintro obj s₁ ⟨rfl,rfl⟩
 have hnew:(s.heap.push {cls:=.type "dict",data:=.dict #[]}).DictOf knd s.heap.objs.size []:=Heap.DictOf.new s.heap
 have hx1:(s.heap.push {cls:=.type "dict",data:=.dict #[]}).get? l=some o:=Heap.get?_push_of_some _ hx
 refine⟨hnew.typeIs,F.args_dict_init_2 _ _,?_⟩
 unfold Builtin.«dict.__init__»
 refine wpAny_bind ?_
 unfold Builtin.Dict.selfAndRest
 refine wpAny_bind (wpAny_notOrdered_dict hnew.typeIs ?_)
 show wpAny _ _ (pure (s.heap.objs.size,[Value.ref l])) _ _ _
 refine wpAny_pure ?_
 show wpAny _ _ (Builtin.Dict.updateFrom "dict.__init__" s.heap.objs.size (.ref l) [] .none) _ _ _
 unfold Builtin.Dict.updateFrom
 refine wpAny_bind (wpAny_typeOf ⟨o,hx1,hc⟩ ?_)
 rw[if_pos (by decide)]
 refine wpAny_bind (CF hx1 hc hdat hd hh λg tk kp=>?_)
 rw[if_pos (show(none:Option Value).isNone=true from rfl)]
 refine wpAny_bind (wpAny_rule ?_)
 have hlg:g.IsList l its:=⟨o,kp _ _ hx1,hc,n,hdat⟩
 have hdg:g.DictOf knd s.heap.objs.size []:=by
  obtain⟨o',es,ep,ho,q⟩:=hnew
  exact⟨o',es,ep,kp _ _ ho,q⟩
 have hdlt:s.heap.objs.size<g.objs.size:=by
  obtain⟨o',es,ep,ho,q⟩:=hdg
  exact Heap.lt_size ho
 have hllt:l<s.heap.objs.size:=Heap.lt_size hx
 refine wpAny_bind (wpAny_pyIter_list (s:={s with heap:=g,toks:=tk}) hlg ?_)
 refine wpAny_pure ⟨plainId_quiet ZT _,?_⟩
 refine Lm (A:=A.in1) (show A.in1.in1.handled=none from hh) (d:=s.heap.objs.size) (I:=g.objs.size) (l:=l) (its:=its) (kv:=kv) (Nat.ne_of_lt hdlt) (Nat.ne_of_lt (Nat.lt_trans hllt hdlt)) (Nat.ne_of_lt hllt) its.size 0 _ [] rfl (Nat.zero_le _) ⟨_,Heap.get?_push_size _ rfl,rfl,rfl⟩ (hlg.push _) ?_ (hdg.push _) (by simpa using hz) ?_
 ·refine⟨hp.1,λj x p h1 h2=>?_⟩
  obtain⟨t2,key2,e2,⟨ot,hot,q⟩,hk2⟩:=hp.2 j x p h1 h2
  exact⟨t2,key2,e2,⟨ot,Heap.get?_push_of_some _ (kp _ _ (Heap.get?_push_of_some _ hot)),q⟩,hk2⟩
 ·intro g2 tk2 hd2 kp2
  refine⟨rfl,r g2 tk2 hd2 λb u e=>?_⟩
  have hb:=Heap.lt_size e
  exact kp2 b u (Nat.ne_of_lt (Nat.lt_trans hb hdlt)) (Nat.ne_of_lt hb) (Heap.get?_push_of_some _ (kp _ _ (Heap.get?_push_of_some _ e)))
end
section
variable {X:Cx}
noncomputable def QT (acc kvs:List (Key×V)):List (Key×V):=kvs.foldl (λa p=>Vh a p.1 p.2) acc
theorem Bh (kvs:List (Key×V))(k:Key)(v:V):(Vh kvs k v).length<=kvs.length+1:=by
 unfold Vh
 split<;> simp
theorem VT:∀(kvs acc:List (Key×V)),(QT acc kvs).length<=acc.length+kvs.length
 | [],acc=>by simp[QT]
 |p::kvs,acc=>by
  have h1:=VT kvs (Vh acc p.1 p.2)
  have h2:=Bh acc p.1 p.2
  show(QT (Vh acc p.1 p.2) kvs).length<=_
  rw[List.length_cons]
  (first|lia|omega)
theorem KV.all {kvs:List (Key×V)}{vs:List (Key×Value)}(t:KV kvs vs):∀{acc:List (Key×V)}{acc':List (Key×Value)},KV acc acc'->KV (QT acc kvs) (UC acc' vs):=by
 induction t with
 |nil=>intro acc acc' h;exact h
 | @cons p q kvs vs r _ ih=>
  intro acc acc' h
  have h2:=h.put p.1 r.2
  have e:stored acc' p.1 q.2=stored acc' q.1 q.2:=by rw[r.1]
  rw[e] at h2
  exact ih h2
noncomputable def Bz (K:PySem.W.Frag):List V->Hp->VK->Prop:=λxs H Q=>∃ l ps kvs,xs=[.ref l]/\SqL K H l ps/\Paired (λp (kv:Key×V)=>∃ t,p= .ref t/\SqT K H t [kV kv.1,kv.2]) ps kvs/\∀d,H d=none->Q (.ref d) (upd H d (.dK (QT [] kvs)))
theorem Hn {pins:List (Addr×Obj)}{σ:St}{H:Hp}{s:Shared}(I:Inv X pins σ H s):∀{ps:List V}{kvs:List (Key×V)}{its:List Value},Paired (λp (kv:Key×V)=>∃ t,p= .ref t/\SqT X.K H t [kV kv.1,kv.2]) ps kvs->Yg ps its->∃kv,KV kvs kv/\EW (Yp X.prog X.w) s.heap its.toArray kv:=fun {ps kvs its} p=>by
 induction p generalizing its with
 |nil=>
  intro v
  cases v
  exact⟨[], .nil,rfl,λj x p h=>by simp at h⟩
 | @cons _ b _ _ r _ ih=>
  intro v
  cases v with
  |cons rv v=>
   obtain⟨kv,h1,h2,h3⟩:=ih v
   obtain⟨t,rfl,ht⟩:=r
   cases rv
   obtain⟨i2,v2,tp,_⟩:=I.tuple ht
   obtain⟨key,val,rfl,e1,e2⟩:=Yg.two v2
   refine⟨(b.1,val)::kv, .cons ⟨rfl,e2⟩ h1,by simpa using h2,λj x p hj hp=>?_⟩
   cases j with
   |zero=>
    simp at hj hp
    subst hj hp
    exact⟨t,key,rfl,tp,GK e1⟩
   |succ j=>exact h3 j x p (by simpa using hj) (by simpa using hp)
theorem UT (K:PySem.W.Frag)(hK:X.K=K)(hc:X.calm=true):Qj X (.type "dict") (Bz K):=by
 subst hK
 intro pins s σ H xs us Q I r h
 obtain⟨l,ps,kvs,rfl,hq,hp,q⟩:=h
 obtain⟨u,rfl,ru⟩:=CP r
 cases ru
 obtain⟨its,rv,⟨o,n,ho,hcl,hdn,hdat⟩,hz⟩:=I.list hq
 obtain⟨kv,h1,h2⟩:=Hn I hp rv
 have hlen:=rv.length
 have hl2:=Paired.len hp
 refine G2 (knd:=Yp X.prog X.w) (I.ok.hd hc) ho hcl hdat hdn h2 (by simpa[←hlen] using hz) λg tk hd kp=>?_
 refine⟨.ref s.heap.objs.size,_,I.laid (t':=tk) kp (Nat.le_refl _) (show YB X.prog X.w _ g _ (.dK (QT [] kvs)) from⟨Nat.le_trans (VT kvs []) (by simp;(first|lia|omega)),beq_eq_false_iff_ne.mpr (Ne.symm (Nat.ne_of_lt I.big)),_,KV.all h1 .nil,hd⟩),rfl,q _ (I.hok.fresh (Nat.le_refl _))⟩
end
section
variable {X:Cx}{pins:List (Addr×Obj)}{σ:St}{H:Hp}{s:Shared}{d:Addr}{o:Obj}{kvs:List (Key×V)}
theorem KV.key {kvs:List (Key×V)}{vs:List (Key×Value)}(h:KV kvs vs):∀{i:Nat} (h1:i<kvs.length) (h2:i<vs.length),(kvs[i]).1=(vs[i]).1:=by
 induction h with
 |nil=>intro i h1;exact absurd h1 (Nat.not_lt_zero _)
 |cons r _ ih=>
  intro i h1 h2
  cases i with
  |zero=>exact r.1
  |succ i=>exact ih (Nat.lt_of_succ_lt_succ h1) (Nat.lt_of_succ_lt_succ h2)
end
section
variable {X:Cx}
end
section
variable {K:PySem.W.Frag}{Er:Exc->Hp->Prop}{S:SC}{OO OO' OO2:List (List XA)}{σ:St}{α β γ ρ ι δ ε:Type}
variable {Fd:Ends->β->Hp->Prop}[fd:FdOk Fd]{u:TS}
theorem Fe {ta:TE}{r:Enc α}{q:Enc γ}{m:Rs (α×γ)}(ha:EvB K Er S OO σ ta (rP2 r q) m):EvB K Er S OO σ (tCB (Ka K) (XT ta ZQ)) Xa (m.bind λ_=>.ok (2:Int)):=λH Q w s P=>
 ha.run w s FB.tr P λa x H1 s1 w1 q1 r9 P1=>by obtain⟨p,x1,x2,e,q,h1,h2⟩:=r9;exact⟨p,[x1,x2],by rw[e], .inr (SqT.of q),P1 _ H1 (Xw.refl _) rfl⟩
noncomputable def GY (d ps:List (Int×α)):List (Int×α):=ps.foldl (λd p=>Q1 d p.1 p.2) d
theorem UG {r:Enc α}{H:Hp}{kvs:List (Key×V)}{ps:List (Int×α)}(h:Paired (rDP r K H) kvs ps):∀{acc:List (Key×V)}{d:List (Int×α)},Paired (rDP r K H) acc d->Paired (rDP r K H) (QT acc kvs) (GY d ps):=by
 induction h with
 |nil=>intro acc d h;exact h
 | @cons kv kx _ _ r _ ih=>
  intro acc d h
  have:=Ve (k:=kx.1) r.2 h
  rw[←r.1] at this
  exact ih this
theorem FH {r:Enc α}{h H:Hp}(hs:Xw h H){xs:List V}{ps:List (Int×α)}(p:Paired (rP2 Xa r K h) xs ps):∃kvs,Paired (λp (kv:Key×V)=>∃ t,p= .ref t/\SqT K H t [kV kv.1,kv.2]) xs kvs/\Paired (rDP r K h) kvs ps:=by
 induction p with
 |nil=>exact⟨[], .nil, .nil⟩
 | @cons x pr _ _ q _ ih=>
  obtain⟨kvs,h1,h2⟩:=ih
  obtain⟨t,a,b,e,ht,e1,e2⟩:=q
  have e1:a= .int pr.1:=e1
  subst e1
  exact⟨(.inl pr.1,b)::kvs, .cons ⟨t,e,SqT.of (hs _ _ ht)⟩ h1, .cons ⟨rfl,e2⟩ h2⟩
theorem CS {ta:TE}{r:Enc α}[z:MonoE r]{ma:Rs (List (Int×α))}(ha:EvL K Er S OO σ ta (rP2 Xa r) ma):Ev K Er S OO OO σ (tCB (Bz K) (XT ta ZQ)) (oD r) (ma.bind λps=>.ok (GY [] ps)):=λH Q w s P=>
 ha.run w s FO.tr P λps x H1 s1 w1 q1 ⟨p,xs,e,q,pr⟩ P1=>by
  obtain⟨kvs,h1,h2⟩:=FH (XB (H:=H1) (OO:=OO)) pr
  refine⟨p,xs,kvs,by rw[e],SqL.of q,h1,λd hd=>?_⟩
  have hn:=Q5 (OO:=OO) hd (o:=.dK (QT [] kvs))
  exact P1 (.ref d) [(d, .dK (QT [] kvs))] _ (X1 hd _) (w1.new hd rfl) hn ⟨d,_,rfl,Paired.imp2 (λ_ _ h=>⟨h.1,z.mono hn h.2⟩) (UG h2 .nil),rfl⟩
end
section
variable {prog:Program}{w:World}{A:Around}
end
section
variable {X:Cx}
end
section
variable {K:PySem.W.Frag}{Er:Exc->Hp->Prop}{S:SC}{OO OO' OO1 OO2:List (List XA)}{σ:St}{α β γ ρ ι δ ε:Type}
variable {Fd:Ends->β->Hp->Prop}[fd:FdOk Fd]{u:TS}
theorem EG {ta tb:TE}{o:OE α}[z:MonoO o]{ma mb:Rs (List α)}(ha:Ev K Er S OO OO1 σ ta (oL o) ma)(hb:∀C,Ev K Er S (C::OO1) (C::OO2) σ tb (oL o) mb):Ev K Er S OO OO2 σ (tOp IU ta tb) (oL o) (ma.bind λas=>mb.bind λbs=>G7 as bs):=λH Q w s P=>by
 refine ha H _ w s ?_
 cases em:ma with
 |bad=>rw[em] at P;exact P
 |err x=>rw[em] at P;exact P
 |ok as=>
  rw[em] at P
  intro v C H1 s1 w1 m1 ho
  refine hb C H1 _ w1 (S.mono _ _ m1 s) ?_
  have P1:PZ Er (FO K OO OO2 (oL o) Q) H (mb.bind λbs=>G7 as bs):=P
  cases en:mb with
  |bad=>rw[en] at P1;exact P1
  |err x=>rw[en] at P1;exact λH2 s2=>P1 H2 (s1.trans s2)
  |ok bs=>
   rw[en] at P1
   intro v2 C2 H2 s2 w2 m2 ho2
   have P2:PZ Er (FO K OO OO2 (oL o) Q) H (G7 as bs):=P1
   obtain⟨c,hc,P3⟩:=P2.okOf λx=>Ql
   obtain⟨hsz,h2⟩:=Zx hc
   cases h2
   obtain⟨p,xs,Cs,e,q,ec⟩:=ho
   obtain⟨p2,ys,Cs2,e2,q2,ec2⟩:=ho2
   subst ec ec2 e e2
   have hp1:H2 p=some (.lst xs):=w2.tr (p, .lst xs) (by simp)
   have hp2:H2 p2=some (.lst ys):=w2.tr (p2, .lst ys) (by simp)
   refine⟨p,p2,xs,ys,rfl,rfl,hp1,hp2,by rw[q.len.1,q2.len.1];exact hsz,λa ha=>?_⟩
   have w3:W ((Cs++Cs2).flatten::OO2) H2:=by
    have pm:((Cs2.flatten::Cs.flatten::OO2)).flatten.Perm (((Cs++Cs2).flatten::OO2)).flatten:=by
     simp only[List.flatten_cons,List.flatten_append]
     rw[←List.append_assoc]
     exact List.perm_append_comm.append_right _
    refine(w2.sub (OO':=Cs2.flatten::Cs.flatten::OO2) ?_).of pm.symm
    simp only[List.flatten_cons,List.cons_append]
    exact(List.Sublist.append (List.Sublist.refl _) (List.sublist_cons_self _ _)).trans (List.sublist_cons_self _ _)
   have m3:Xw (hid H2 (((p2, .lst ys)::Cs2.flatten)::((p, .lst xs)::Cs.flatten)::OO2)) (hid H2 ((Cs++Cs2).flatten::OO2)):=QA (Xw.refl _) λb hb=>by
    rw[Yh,List.flatten_append,List.map_append,List.mem_append,List.mem_append] at hb
    rw[Yh,Yh,List.mem_append,List.mem_append]
    rcases hb with(hb |hb) |hb
    ·exact .inr (.inl (List.mem_cons_of_mem _ hb))
    ·exact .inl (List.mem_cons_of_mem _ hb)
    ·exact .inr (.inr hb)
   have w4:=w3.new ha (o:=.lst (xs++ys)) rfl
   have m4:=Q5 (OO:=(Cs++Cs2).flatten::OO2) ha (o:=.lst (xs++ys))
   have pf:((((a, .lst (xs++ys))::(Cs++Cs2).flatten))::OO2).flatten.Perm ([(a,HO.lst (xs++ys))]::(Cs++Cs2).flatten::OO2).flatten:=by simp
   have m5:Xw (hid H2 ((Cs++Cs2).flatten::OO2)) (hid (upd H2 a (.lst (xs++ys))) (((a, .lst (xs++ys))::(Cs++Cs2).flatten)::OO2)):=by
    rw[Yd pf];exact m4
   refine P3 (.ref a) ((a, .lst (xs++ys))::(Cs++Cs2).flatten) _ ((s1.trans s2).trans (X1 ha _)) (w4.of pf) (((m1.trans m2).trans m3).trans m5) ⟨a,xs++ys,Cs++Cs2,rfl,?_,rfl⟩
   exact L2.P3.app (q.imp λ_ _ _ h=>z.mono ((m2.trans m3).trans m5) h) (q2.imp λ_ _ _ h=>z.mono (m3.trans m5) h)
noncomputable def Lh:Enc V:=λ_ H v y=>∃ a x,v= .ref a/\H a=some (.tup [y,x])
instance:FlatE Lh:=⟨λs r9=>by obtain⟨a,x,e,h⟩:=r9;exact⟨a,x,e,s _ _ h rfl⟩⟩
theorem FK {v y:V}(i:Nat)(hσ:σ[i]?=some (some v))(h:∀x,S.p x->Lh K x v y):∀(H:Hp) (Q:VK),W OO H->S.p (hid H OO)->Q y H->(tOp (Bo K) (QD i) (tC (.int 0))) σ H Q:=λH Q w s q=>by
 obtain⟨a,x,e,hp⟩:=h _ s
 exact⟨v,hσ,a,_,0,y,e,rfl,SqT.of (XB _ _ hp),rfl,q⟩
theorem Gv {o1:OE α}{o2:OE γ}[z1:MonoO o1][z2:MonoO o2]{m:Rs β}{v:V}{a:α×γ}{C:List XA}(k k1 k2:Nat)(hk:OO[k]?=some C)(hk1:k1<(OO.set k []).length)(hk2:k2<((OO.set k []).set k1 []).length)(h:∀x,S.p x->oT2 o1 o2 K x v a C)
  (hr:∀v1 v2 C1 C2,Sv Er ((((S.add K Lh v v1).add K Lj v v2).addO K o1 v1 a.1 C1).addO K o2 v2 a.2 C2) (((OO.set k []).set k1 C1).set k2 C2) σ u Fd m):Sv Er S OO σ u Fd m:=λH D w s P=>by
 obtain⟨p,x,y,C1,C2,e,hp,h1,h2,c⟩:=h _ s
 subst c e
 have pm:=X0 hk
 have pm2:(C1::C2::OO.set k []).flatten.Perm OO.flatten:=by
  refine List.Perm.trans ?_ pm
  simp only[List.flatten_cons]
  rw[List.append_assoc]
 have w1:W (C1::C2::OO.set k []) H:=w.of pm2
 obtain⟨w2,m2⟩:=Io (k:=k1+1) w1 (by rw[List.length_cons];exact Nat.succ_lt_succ hk1)
 have w2':W (C2::(OO.set k []).set k1 C1) H:=w2
 obtain⟨w3,m3⟩:=Io (k:=k2) w2' (by rw[List.length_set] at hk2⊢;exact hk2)
 have m4:Xw (hid H OO) (hid H (((OO.set k []).set k1 C1).set k2 C2)):=by
  rw[←Yd pm2]
  exact Xw.trans m2 m3
 exact hr x y C1 C2 H D w3 ⟨⟨⟨⟨S.mono _ _ m4 s,p,y,rfl,m4 _ _ hp⟩,p,x,rfl,m4 _ _ hp⟩,z1.mono m4 h1⟩,z2.mono m4 h2⟩ (PZ.tr (fd.tr D) m4 P)
theorem DP {tl:TE}{o:OE α}[MonoO o]{f:List α->Rs β}{v:V}{as:List α}{C:List XA}(k:Nat)(hte:∀(H:Hp) (Q:VK),W OO H->S.p (hid H OO)->Q v H->tl σ H Q)(hk:OO[k]?=some C)(h:∀x,S.p x->oL o K x v as C)
  (hr:∀C',Sv Er (S.addO K (oL o) v [] C') (OO.set k C') σ u Fd (f [])):Sv Er S OO σ (Qr (Jd (LC K "list" BH tl)) u) Fd (f []):=λH D w s P=>by
 obtain⟨p,xs,Cs,e,q,c⟩:=h _ s
 subst c e
 have hH:H p=some (.lst xs):=w.tr (p, .lst xs) (List.mem_flatten.mpr ⟨_,List.mem_of_getElem? hk,List.mem_cons_self⟩)
 obtain⟨w3,m3⟩:=E9 (D:=[]) (xs':=[]) (Cs':=[]) w.nil hk (λc hc=>by cases hc) List.nodup_nil
 rw[YO] at m3
 refine hte _ _ w s ⟨.inl ⟨rfl,_,SqL.of hH⟩,p,xs,rfl,rfl,hH,?_⟩
 exact hr _ _ D w3 ⟨S.mono _ _ m3 s,⟨p,[],[],rfl, .nil,rfl⟩⟩ (PZ.tr (fd.tr D) m3 P)
end
section
variable {X:Cx}
end
section
variable {K:PySem.W.Frag}{Er:Exc->Hp->Prop}{S:SC}{OO OO' OO1 OO2:List (List XA)}{σ:St}{α β γ ρ ι δ ε:Type}
end
section
variable {K:PySem.W.Frag}{Er:Exc->Hp->Prop}{S:SC}{OO OO' OO1 OO2:List (List XA)}{σ:St}{α β γ ρ ι δ ε:Type}
noncomputable def tk (k:List Int):List Key:=k.map Sum.inl
variable {Fd:Ends->β->Hp->Prop}[fd:FdOk Fd]{u:TS}
end
section
variable {X:Cx}{α:Type}[DecidableEq α]{r:Enc α}{d:Nat}
end
section
variable {K:PySem.W.Frag}{Er:Exc->Hp->Prop}{S:SC}{OO OO' OO1 OO2:List (List XA)}{σ:St}{α β γ ρ ι δ ε:Type}
end
section
variable {X:Cx}{pins:List (Addr×Obj)}{σ:St}{H:Hp}{s:Shared}{h':Heap}
theorem Inv.turns {t':Nat}{ch:List Addr}(I:Inv X pins σ H s)(k:∀b o,b∉ch->s.heap.get? b=some o->h'.get? b=some o)(hf:∀b∈ch,K0 X pins H b):Inv X pins σ H {s with heap:=h',toks:=t'}:=by
 have nit:∀b o,H b=some o->b∉ch:=λb o e z=>by rw[(hf b z).1] at e;cases e
 refine I.step (g':=s.gens) (d':=s.drawn) (ch:=ch) (λb hb=>?_) (λb o _ _ hc e _=>k b o hc e) (λb o _ _ hc e _=>⟨o.slots,k b o hc e⟩)
  (λb o _ e n=>n) (λb o hc e=>⟨o,k b o hc e⟩) (λb xs e=>e) (λb o xs e=>e) (λb ps e=>⟨#[],by rw[e];simp⟩) (λm hm=>?_) (λb v e=>?_) I.bare
 ·obtain⟨f0,f1,f2,f3,f4,f5⟩:=hf b hb
  exact⟨f3,f1,f4,f5⟩
 ·obtain⟨o,es,ep,ho,r⟩:=hm
  exact⟨o,es,ep,k _ o (λz=>(hf _ z).2.1 rfl) ho,r⟩
 ·refine(I.hok b v e).stay (λc o hc q=>k c o ?_ q) (λc q=>q) λc xs q=>q
  rcases hc with z |z
  ·rw[z];exact nit b v e
  ·exact nit c _ z
end
section
variable {X:Cx}{elts:List Expr}{k:Nat}{pos0:Pos}
end
section
variable {K:PySem.W.Frag}{Er:Exc->Hp->Prop}{S:SC}{OO OO' OO1 OO2:List (List XA)}{σ:St}{α β γ ρ ι δ ε:Type}
end
section
variable {X:Cx}
end
section
variable {K:PySem.W.Frag}{Er:Exc->Hp->Prop}{S:SC}{OO OO' OO1 OO2:List (List XA)}{σ:St}{α β γ ρ ι δ ε:Type}
variable {Fd:Ends->β->Hp->Prop}[fd:FdOk Fd]{u:TS}
end
section
variable {K:PySem.W.Frag}{Er:Exc->Hp->Prop}{S:SC}{OO OO' OO1 OO2:List (List XA)}{σ:St}{α β γ ρ ι δ ε:Type}{u:TS}
end
section
variable {X:Cx}
end
section
variable {K:PySem.W.Frag}{Er:Exc->Hp->Prop}{S:SC}{OO:List (List XA)}{σ:St}
end
section
variable {X:Cx}{pins:List (Addr×Obj)}{σ:St}{H:Hp}{s:Shared}{d:Addr}{o:Obj}{kvs:List (Key×V)}
end
section
variable {X:Cx}
end
section
variable {K:PySem.W.Frag}{Er:Exc->Hp->Prop}{S:SC}{OO OO' OO1 OO2 OO3:List (List XA)}{σ:St}{α β γ ρ ι δ ε ζ:Type}
variable {Fd:Ends->β->Hp->Prop}[fd:FdOk Fd]{u:TS}
noncomputable def oT3 (o:OE α)(q:OE β)(t:OE γ):OE (α×β×γ):=λK h v a C=>∃ p x y z C1 C2 C3,v= .ref p/\h p=some (.tup [x,y,z])/\o K h x a.1 C1/\q K h y a.2.1 C2/\t K h z a.2.2 C3/\C=C1++(C2++C3)
instance {o:OE α}{q:OE β}{t:OE γ}[m:MonoO o][n:MonoO q][k:MonoO t]:MonoO (oT3 o q t):=⟨λs r9=>by obtain⟨p,x,y,z,C1,C2,C3,e,h,h1,h2,h3,c⟩:=r9;exact⟨p,x,y,z,C1,C2,C3,e,s _ _ h,m.mono s h1,n.mono s h2,k.mono s h3,c⟩⟩
instance {o:OE α}{q:OE β}{t:OE γ}[m:FlatO o][n:FlatO q][k:FlatO t]:FlatO (oT3 o q t):=⟨λs r9=>by obtain⟨p,x,y,z,C1,C2,C3,e,h,h1,h2,h3,c⟩:=r9;exact⟨p,x,y,z,C1,C2,C3,e,s _ _ h rfl,m.flat s h1,n.flat s h2,k.flat s h3,c⟩⟩
instance {o:OE α}{q:OE β}{t:OE γ}{ro:Enc α}{rq:Enc β}{rt:Enc γ}[m:FrzC o ro][n:FrzC q rq][k:FrzC t rt]:FrzC (oT3 o q t) (rP3 ro rq rt):=⟨λ⟨p,x,y,z,C1,C2,C3,e,h,h1,h2,h3,c⟩ s hc=>by
 subst c
 exact⟨p,x,y,z,e,s _ _ h,m.frz h1 s λc hm=>hc c (by simp[hm]),n.frz h2 s λc hm=>hc c (by simp[hm]),k.frz h3 s λc hm=>hc c (by simp[hm])⟩⟩
end
section
variable {K:PySem.W.Frag}{Er:Exc->Hp->Prop}{S:SC}{OO OO' OO1 OO2:List (List XA)}{σ:St}{α β γ ρ ι δ ε ζ:Type}
variable {Fd:Ends->β->Hp->Prop}[fd:FdOk Fd]{u:TS}
end
section
variable {K:PySem.W.Frag}{Er:Exc->Hp->Prop}{S:SC}{OO OO' OO1 OO2:List (List XA)}{σ:St}{α β γ ρ ι δ ε ζ:Type}
variable {Fd:Ends->β->Hp->Prop}[fd:FdOk Fd]{u:TS}
end
section
variable {K:PySem.W.Frag}{Er:Exc->Hp->Prop}{S:SC}{OO OO' OO1 OO2:List (List XA)}{σ:St}{α β γ ρ ι δ ε ζ α1 α3 α4:Type}
variable {Fd:Ends->β->Hp->Prop}[fd:FdOk Fd]{u:TS}
end
end L2
namespace L2
open PySem
noncomputable def Inc (xs:Array Nat):Prop:=xs.toList.Pairwise (· < ·)
theorem Inc.lt {xs:Array Nat}(h:Inc xs){i j v u:Nat}(hij:i<j)(hi:xs[i]?=some v)(hj:xs[j]?=some u):v<u:=by
 rw[←Array.getElem?_toList] at hi hj
 obtain⟨a,rfl⟩:=List.getElem?_eq_some_iff.mp hi
 obtain⟨b,rfl⟩:=List.getElem?_eq_some_iff.mp hj
 exact List.pairwise_iff_getElem.mp h i j a b hij
theorem Inc.le {xs:Array Nat}(h:Inc xs){i j v u:Nat}(hij:i<=j)(hi:xs[i]?=some v)(hj:xs[j]?=some u):v<=u:=by
 rcases Nat.lt_or_eq_of_le hij with z |z
 ·exact Nat.le_of_lt (h.lt z hi hj)
 ·subst z;rw[hi] at hj;cases hj;exact Nat.le_refl _
structure TOk (t:SetTable)(led:Bool):Prop where
 inc:Inc t.place
 dum:t.dummies= #[]
 led:t.led=led
theorem TOk.fresh (f m:Nat)(led:Bool):TOk (.fresh f m led) led:=⟨List.Pairwise.nil,rfl,rfl⟩
end L2
namespace L2
open PySem PySem.Spec PyProof.Rows
theorem Bn {vs:List Value}{ms:List Int}(h:IntsAre vs ms)(k:Int):(∃v∈vs,Value.isInt k v=true)↔k∈ms:=by
 induction h with
 |nil=>simp
 |cons n t _ ih=>
  rw[List.mem_cons, ←ih]
  constructor
  ·rintro⟨v,hv,e⟩
   rcases List.mem_cons.mp hv with z |z
   ·subst z;obtain⟨t',e'⟩:=Value.isInt_shape e;cases e';exact .inl rfl
   ·exact .inr ⟨v,z,e⟩
  ·rintro(z | ⟨v,hv,e⟩)
   ·subst z;exact⟨_, .head _,beq_self_eq_true _⟩
   ·exact⟨v, .tail _ hv,e⟩
theorem FM {vs vs':List Value}(p:vs'.Perm vs):∀{ms:List Int},IntsAre vs ms->∃ms',IntsAre vs' ms'/\ms'.Perm ms:=by
 induction p with
 |nil=>intro ms h;exact⟨ms,h, .refl _⟩
 |cons x _ ih=>
  intro ms h
  cases h with
  |cons n t h=>obtain⟨m,a,b⟩:=ih h;exact⟨n::m, .cons n t a,b.cons _⟩
 |swap x y l=>
  intro ms h
  cases h with
  |cons n t h=>cases h with
   |cons m u h=>exact⟨_, .cons m u (.cons n t h), .swap ..⟩
 |trans _ _ ih1 ih2=>
  intro ms h
  obtain⟨m,a,b⟩:=ih2 h
  obtain⟨m',a',b'⟩:=ih1 a
  exact⟨m',a',b'.trans b⟩
noncomputable def dd (l:List Int):List Int:=l.foldl step_dedup []
structure SCore (prog:Program)(w:World)(es:Array (Int×Value))(t:SetTable)(ns:List Int):Prop where
 el:ElemsOf (intKind prog w) es.toList
 pm:∃ms,IntsAre (es.toList.map (·.2)) ms/\ms.Perm ns
 sz:es.size<scanBound
 fit:t.fits es.size=true
 tok:TOk t (!w.params.followText "set-order")
noncomputable def HQ (prog:Program)(w:World)(h:Heap)(a:Addr)(ns:List Int):Prop:=
 ∃o es ep t,h.get? a=some o/\o.ExactSet/\o.data= .set es ep t/\SCore prog w es t ns
section
variable {prog:Program}{w:World}{A:Around}{E:Value->Shared->Prop}{s:Shared}{a:Addr}{ns:List Int}
theorem SCore.len {es:Array (Int×Value)}{t:SetTable}(c:SCore prog w es t ns):es.size=ns.length:=by
 obtain⟨ms,a,b⟩:=c.pm
 rw[←b.length_eq, ←IntsAre.length a,List.length_map,Array.length_toList]
theorem SCore.mem {es:Array (Int×Value)}{t:SetTable}(c:SCore prog w es t ns)(k:Int):(∃e∈es.toList,Value.isInt k e.2=true)↔k∈ns:=by
 obtain⟨ms,a,b⟩:=c.pm
 rw[←b.mem_iff, ←Bn a k]
 constructor
 ·rintro⟨e,h,z⟩;exact⟨e.2,List.mem_map_of_mem h,z⟩
 ·rintro⟨v,h,z⟩
  obtain⟨e,h1,rfl⟩:=List.mem_map.mp h
  exact⟨e,h1,z⟩
theorem SCore.perm {es es':Array (Int×Value)}{t t':SetTable}(c:SCore prog w es t ns)(p:es'.toList.Perm es.toList)(f:t'.fits es'.size=true)(k:TOk t' (!w.params.followText "set-order")):SCore prog w es' t' ns:=by
 obtain⟨ms,a,b⟩:=c.pm
 obtain⟨m,a',b'⟩:=FM (p.map (·.2)) a
 have e:es'.size=es.size:=by rw[←Array.length_toList,p.length_eq,Array.length_toList]
 exact⟨c.el.perm p,⟨m,a',b'.trans b⟩,by rw[e];exact c.sz,f,k⟩
theorem HQ.put {h:Heap}{o:Obj}{es es':Array (Int×Value)}{ep:Nat}{t t':SetTable}(ho:h.get? a=some o)(hx:o.ExactSet)(hd:o.data= .set es ep t):
  (h.update a (Obj.putSet es' t')).get? a=some {o with data:=.set es' (ep+1) t'}/\(SCore prog w es' t' ns->HQ prog w (h.update a (Obj.putSet es' t')) a ns):=by
 have g:=Heap.get?_update_self (Obj.putSet es' t') ho (by rw[putSet_of es' t' hd];rfl)
 rw[putSet_of es' t' hd] at g
 exact⟨g,λc=>⟨_,_,_,_,g,hx,rfl,c⟩⟩
end
section
variable {prog:Program}{w:World}{A:Around}{E:Value->Shared->Prop}{s:Shared}
theorem HQ.at {h h':Heap}{a:Addr}{ns:List Int}(x:HQ prog w h a ns)(k:∀o,h.get? a=some o->h'.get? a=some o):HQ prog w h' a ns:=
 let ⟨o,es,ep,t,ho,r⟩:=x;⟨o,es,ep,t,k o ho,r⟩
end
section
variable {M:Model}{A:Around}{E:Value->Shared->Prop}{s:Shared}
end
section
variable {prog:Program}{w:World}{A:Around}{E:Value->Shared->Prop}{s:Shared}{a:Addr}{o:Obj}{es:Array (Int×Value)}{ep:Nat}{t:SetTable}
end
section
variable {prog:Program}{w:World}{A:Around}{E:Value->Shared->Prop}{s:Shared}{a I tp:Addr}{o:Obj}{es:Array (Int×Value)}{ep:Nat}{t:SetTable}{L:List (Int×Value)}
inductive SMode (w:World)(a:Addr)(es:Array (Int×Value))(ep:Nat)(t:SetTable)(tp:Addr)(L:List (Int×Value))(h:Heap)(i:Nat):Value->Prop
 |text (sl:Nat) (hT:w.params.followText "set-order" =true) (hL:L=(pickOrder (w.params.setOrder a ep) es).toList):SMode w a es ep t tp L h i (.int sl 0)
 |plain (sl:Nat) (hT:w.params.followText "set-order" =false) (hp:(!t.plain&&decide (es.size > 1))=false) (hL:L=es.toList) (hb:SetTable.below t.place sl=i):SMode w a es ep t tp L h i (.int sl 0)
 |drawn (ps:List Nat) (hg:h.get? tp=some {cls:=.type "tuple",data:=.seq (ps.map λi=>Value.int (i:Nat) 0).toArray}) (hn:ps.length=L.length) (hL:∀(i:Nat) pl,ps[i]?=some pl->L[i]?=es[pl]?):SMode w a es ep t tp L h i (.ref tp)
structure SIt (w:World)(I a:Addr)(es:Array (Int×Value))(ep:Nat)(t:SetTable)(tp:Addr)(L:List (Int×Value))(o:Obj)(i:Nat)(h:Heap):Prop where
 it:∃ob first,h.get? I=some ob/\ob.cls= .type "set_iterator" /\ob.data= .fields #[first, .int i 0, .ref a, .int es.size 0, .int ep 0]/\SMode w a es ep t tp L h i first
 st:h.get? a=some o
theorem SMode.at {h h':Heap}{i:Nat}{v:Value}(m:SMode w a es ep t tp L h i v)(k:∀o,h.get? tp=some o->h'.get? tp=some o):SMode w a es ep t tp L h' i v:=by
 cases m with
 |text sl hT hL=>exact .text sl hT hL
 |plain sl hT hp hL hb=>exact .plain sl hT hp hL hb
 |drawn ps hg hn hL=>exact .drawn ps (k _ hg) hn hL
end
section
variable {prog:Program}{w:World}{A:Around}{E:Value->Shared->Prop}{s:Shared}{a I tp:Addr}{o:Obj}{es:Array (Int×Value)}{ep:Nat}{t:SetTable}{L:List (Int×Value)}{ns:List Int}
theorem SIt.frame {i:Nat}{h h':Heap}(x:SIt w I a es ep t tp L o i h)(k:∀b∈[I,a,tp],∀o,h.get? b=some o->h'.get? b=some o):SIt w I a es ep t tp L o i h':=by
 obtain⟨⟨ob,f,h1,h2,h3,m⟩,h4⟩:=x
 exact⟨⟨ob,f,k I (by simp) _ h1,h2,h3,m.at λo e=>k tp (by simp) o e⟩,k a (by simp) _ h4⟩
end
section
variable {X:Cx}
end
section
variable {K:PySem.W.Frag}{Er:Exc->Hp->Prop}{S:SC}{OO:List (List XA)}{σ:St}
variable {u:TS}{α γ ρ ι:Type}
variable {β:Type}{Fd:Ends->β->Hp->Prop}[fd:FdOk Fd]
end
section
variable {α β γ:Type}
end
section
variable {K:PySem.W.Frag}{Er:Exc->Hp->Prop}{S:SC}{OO:List (List XA)}{σ:St}{α1 α2 α3 α4 ρ:Type}{mg:Str->Option Value}{E:XK}
end
section
variable {X:Cx}{tg:Expr}
end
section
variable {K:PySem.W.Frag}{Er:Exc->Hp->Prop}{S:SC}{OO OO':List (List XA)}{σ:St}{α β γ:Type}
theorem P3.reverse {δ:Type}{F:α->γ->δ->Prop}:∀{l m n},P3 F l m n->P3 F l.reverse m.reverse n.reverse:=λp=>by
 induction p with
 |nil=>exact .nil
 |cons r _ ih=>rw[List.reverse_cons,List.reverse_cons,List.reverse_cons];exact ih.snoc r
variable {u:TS}{Fd:Ends->β->Hp->Prop}[fd:FdOk Fd]
end
section
variable {K:PySem.W.Frag}{Er:Exc->Hp->Prop}{S:SC}{OO:List (List XA)}{σ:St}{α β γ ι:Type}{u:TS}{Fd:Ends->β->Hp->Prop}[fd:FdOk Fd]
end
section
variable {K:PySem.W.Frag}{Er:Exc->Hp->Prop}{S:SC}{OO:List (List XA)}{σ:St}{α β:Type}
end
noncomputable def L4 (A:Around)(s:Shared)(v u:Value)(b:Bool):Prop:=
 ∀(prog:Program) (w:World) (E:Value->Shared->Prop) (Q:Value->Shared->Prop),Q (.bool b) s->wpAny (model prog w) A (richCompare .Lt v u) Q E s
structure LtOk {α:Type}(r:Enc α)(lt:α->α->Bool)(d:Nat):Prop where
 at':∀{X:Cx}{pins:List (Addr×Obj)}{σ:St}{H:Hp}{s:Shared}{x y:V}{v u:Value}{a b:α}{A:Around},Inv X pins σ H s->X8 x v->X8 y u->r X.K H x a->r X.K H y b->A.units+d<cLine->L4 A s v u (lt a b)
noncomputable def ltI (a b:Int):Bool:=decide (a<b)
theorem lt_int:LtOk Xa ltI 0:=⟨fun {X pins σ H s x y v u a b A} I rx ry h1 h2 _ prog w E Q q=>by
 have e1:x=V.int a:=h1
 have e2:y=V.int b:=h2
 subst e1 e2
 obtain⟨t,rfl⟩:=rx
 obtain⟨t',rfl⟩:=ry
 exact CmpOf.ints_lt (P:=λj v=>∃ t,v= .int (if j=0 then a else b) t) (λj=>if j=0 then a else b) (λ_ _ h=>h) 0 1 _ _ _ _ _ ⟨t,rfl⟩ ⟨t',rfl⟩ q⟩
section
variable {α:Type}[DecidableEq α]{r:Enc α}{lt:α->α->Bool}{d:Nat}
theorem LtOk.imp {q:Enc α}(L:LtOk r lt d)(h:∀{K:PySem.W.Frag}{H:Hp}{v:V}{a:α},q K H v a->r K H v a):LtOk q lt d:=⟨λI rx ry h1 h2 hu=>L.at' I rx ry (h h1) (h h2) hu⟩
end
section
variable {α:Type}
noncomputable def kp (kf:Value->α)(d:α)(xs:Array Keyed)(i:Nat):α:=(xs[i]?.map λp=>kf p.1).getD d
structure Ord (lt:α->α->Bool):Prop where
 irr:∀a,lt a a=false
 tr:∀{a b c},lt a b=true->lt b c=true->lt a c=true
structure Asks (prog:Program)(w:World)(A:Around)(E:Value->Shared->Prop)(s:Shared)(lt:α->α->Bool)(kf:Value->α)(d:α)(a0:Array Keyed):Prop extends Ord lt where
 ask:∀{st:SortSt}{i j:Nat}{Q:Option Bool->SortSt->Prop},SBase a0 st->i<a0.size->j<a0.size->Q (some (lt (kp kf d (arrOf st) i) (kp kf d (arrOf st) j))) st->wpS (model prog w) A E s (ltAt' i j) Q st
 two:∀{st:SortSt}{i j:Nat},SBase a0 st->i<a0.size->j<a0.size->i≠j->lt (kp kf d (arrOf st) i) (kp kf d (arrOf st) j)=true∨lt (kp kf d (arrOf st) j) (kp kf d (arrOf st) i)=true
variable {prog:Program}{w:World}{A:Around}{E:Value->Shared->Prop}{s:Shared}{lt:α->α->Bool}{kf:Value->α}{d:α}{a0:Array Keyed}
noncomputable def Ris (lt:α->α->Bool)(k:Nat->α)(n:Nat):Prop:=∀ i j,i<j->j<n->lt (k i) (k j)=true
noncomputable def Fal (lt:α->α->Bool)(k:Nat->α)(n:Nat):Prop:=∀ i j,i<j->j<n->lt (k j) (k i)=true
theorem Ris.more (O:Ord lt){k:Nat->α}{n:Nat}(h:Ris lt k n)(q:0<n->lt (k (n-1)) (k n)=true):Ris lt k (n+1):=λi j hij hj=>by
 rcases Nat.lt_or_ge j n with z |z
 ·exact h i j hij z
 ·have e:j=n:=by (first|lia|omega)
  subst e
  rcases Nat.lt_or_ge i (j-1) with y |y
  ·exact O.tr (h i (j-1) y (by (first|lia|omega))) (q (by (first|lia|omega)))
  ·rw[show i=j-1 by (first|lia|omega)];exact q (by (first|lia|omega))
theorem Fal.more (O:Ord lt){k:Nat->α}{n:Nat}(h:Fal lt k n)(q:0<n->lt (k n) (k (n-1))=true):Fal lt k (n+1):=λi j hij hj=>by
 rcases Nat.lt_or_ge j n with z |z
 ·exact h i j hij z
 ·have e:j=n:=by (first|lia|omega)
  subst e
  rcases Nat.lt_or_ge i (j-1) with y |y
  ·exact O.tr (q (by (first|lia|omega))) (h i (j-1) y (by (first|lia|omega)))
  ·rw[show i=j-1 by (first|lia|omega)];exact q (by (first|lia|omega))
theorem Asks.other (L:Asks prog w A E s lt kf d a0){st:SortSt}{i j:Nat}(B:SBase a0 st)(hi:i<a0.size)(hj:j<a0.size)(n:i≠j)(h:lt (kp kf d (arrOf st) i) (kp kf d (arrOf st) j)=false):lt (kp kf d (arrOf st) j) (kp kf d (arrOf st) i)=true:=(L.two B hi hj n).resolve_left (by rw[h];decide)
end
section
variable {α β γ:Type}
theorem Dl {f:α->β}{l' k:List β}(h:l'.Perm k):∀{l:List α},k=l.map f->∃m:List α,m.Perm l/\m.map f=l':=by
 induction h with
 |nil=>intro l e;cases l with
  |nil=>exact⟨[], .nil,rfl⟩
  |cons a l=>cases e
 |cons x _ ih=>intro l e;cases l with
  |nil=>cases e
  |cons a l=>
   injection e with e1 e2
   obtain⟨m,hm,em⟩:=ih e2
   exact⟨a::m,hm.cons a,by rw[List.map_cons,em,e1]⟩
 |swap x y t=>intro l e;cases l with
  |nil=>cases e
  |cons a l=>cases l with
   |nil=>cases e
   |cons b l=>
    injection e with e1 e2
    injection e2 with e2 e3
    exact⟨b::a::l, .swap ..,by rw[List.map_cons,List.map_cons,e1,e2,e3]⟩
 |trans _ _ ih1 ih2=>
  intro l e
  obtain⟨m2,h2,e2⟩:=ih2 e
  obtain⟨m1,h1,e1⟩:=ih1 e2.symm
  exact⟨m1,h1.trans h2,e1⟩
section
variable [DecidableEq α]{lt:α->α->Bool}
end
end
section
variable {prog:Program}{w:World}{A:Around}{E:Value->Shared->Prop}{s:Shared}{α:Type}
end
section
variable {X:Cx}{β:Type}[DecidableEq β]{r:Enc β}{lt:β->β->Bool}{d:Nat}
end
section
variable {X:Cx}{α:Type}
end
section
variable {K:PySem.W.Frag}{Er:Exc->Hp->Prop}{S:SC}{OO OO':List (List XA)}{σ:St}{α β γ δ:Type}
theorem P3.tri {F:α->β->γ->Prop}:∀{l m n},P3 F l m n->∃T:List (α×β×γ),T.map (·.1)=l/\T.map (·.2.1)=m/\T.map (·.2.2)=n/\∀t∈T,F t.1 t.2.1 t.2.2:=λp=>by
 induction p with
 |nil=>exact⟨[],rfl,rfl,rfl,λt h=>nomatch h⟩
 |cons r _ ih=>
  obtain⟨T,e1,e2,e3,h⟩:=ih
  exact⟨(_,_,_)::T,by rw[List.map_cons,e1],by rw[List.map_cons,e2],by rw[List.map_cons,e3],λt ht=>(List.mem_cons.mp ht).elim (λz=>z▸r) (h t)⟩
theorem P3.oft {F:α->β->γ->Prop}:∀{T:List (α×β×γ)},(∀t∈T,F t.1 t.2.1 t.2.2)->P3 F (T.map (·.1)) (T.map (·.2.1)) (T.map (·.2.2)):=fun {T}=>by
 induction T with
 |nil=>intro _;exact .nil
 |cons t T ih=>intro h;exact .cons (h t List.mem_cons_self) (ih λu hu=>h u (List.mem_cons_of_mem _ hu))
theorem BU {a a':List α}{b b':List β}(h:a.zip b=a'.zip b')(h1:a.length=b.length)(h2:a'.length=b'.length):a=a'/\b=b':=by
 have e1:=congrArg (List.map Prod.fst) h
 have e2:=congrArg (List.map Prod.snd) h
 rw[List.map_fst_zip (by (first|lia|omega)),List.map_fst_zip (by (first|lia|omega))] at e1
 rw[List.map_snd_zip (by (first|lia|omega)),List.map_snd_zip (by (first|lia|omega))] at e2
 exact⟨e1,e2⟩
theorem P3.perm {F:α->β->γ->Prop}{l zs:List α}{m bs:List β}{n:List γ}(p:P3 F l m n)(h:(zs.zip bs).Perm (l.zip m))(hl:zs.length=bs.length):∃n',P3 F zs bs n'/\n'.Perm n:=by
 obtain⟨T,e1,e2,e3,hT⟩:=p.tri
 have ez:T.map (λt=>(t.1,t.2.1))=l.zip m:=by rw[←e1, ←e2,List.zip_map']
 obtain⟨T',hp,e⟩:=Dl h ez.symm
 have:(T'.map (·.1)).zip (T'.map (·.2.1))=zs.zip bs:=by rw[List.zip_map'];exact e
 obtain⟨f1,f2⟩:=BU this (by simp) hl
 refine⟨T'.map (·.2.2),?_,by rw[←e3];exact hp.map _⟩
 rw[←f1, ←f2]
 exact P3.oft λt ht=>hT t (hp.mem_iff.mp ht)
end
section
variable {K:PySem.W.Frag}{Er:Exc->Hp->Prop}{S:SC}{OO OO':List (List XA)}{σ:St}{α β:Type}{u:TS}{Fd:Ends->β->Hp->Prop}[fd:FdOk Fd]
end
section
variable {K:PySem.W.Frag}{Er:Exc->Hp->Prop}{S:SC}{OO OO':List (List XA)}{σ:St}{α1 α2 β ρ:Type}{u:TS}
theorem W.one {H:Hp}(w:W OO H):W [OO.flatten] H:=w.of (by simp)
end
section
variable {K:PySem.W.Frag}{Er:Exc->Hp->Prop}{S:SC}{OO OO':List (List XA)}{σ:St}{α α2 β γ ρ:Type}
variable {Fd:Ends->β->Hp->Prop}[fd:FdOk Fd]{u:TS}
end
section
variable {prog:Program}{w:World}{A:Around}{E:Value->Shared->Prop}{s:Shared}
end
section
variable {X:Cx}
end
section
variable {K:PySem.W.Frag}{Er:Exc->Hp->Prop}{S:SC}{OO OO':List (List XA)}{σ:St}{α β γ:Type}
end
section
variable {X:Cx}{α:Type}{r:Enc α}{lt:α->α->Bool}{d:Nat}
end
section
variable {K:PySem.W.Frag}{Er:Exc->Hp->Prop}{S:SC}{OO OO':List (List XA)}{σ:St}{α:Type}
end
section
variable {X:Cx}{pins:List (Addr×Obj)}{σ:St}{H:Hp}{s0:Shared}
noncomputable def Em (X:Cx)(g:Heap)(d:Addr)(xs:List (List Key×Addr×Value)):Prop:=∃ o es ep,g.get? d=some o/\o.ExactDict/\o.data= .dict es ep/\es.toList=xs.map (entryOfKey (tupleKind (Yp X.prog X.w)))/\(xs.map (·.1)).Nodup
theorem Em.h {g:Heap}{tk:Nat}{d:Addr}{acc:List (List Key×V)}{xs:List (List Key×Addr×Value)}(D:Em X g d xs)(I:Inv X pins σ H {s0 with heap:=g,toks:=tk})(r:KT H acc xs):g.DictOfH (tupleKind (Yp X.prog X.w)) d xs:=by
 obtain⟨o,es,ep,h1,h2,h3,h4,h5⟩:=D
 refine⟨o,es,ep,h1,h2,h3,h4,λx hx=>?_,h5⟩
 have all:∀{l:List (List Key×V)}{m:List (List Key×Addr×Value)},KT H l m->∀x∈m,(tupleKind (Yp X.prog X.w)).is g x.1 x.2.1:=by
  intro l m q
  induction q with
  |nil=>intro x hx;exact nomatch hx
  | @cons p q ps qs hq t ih=>
   intro x hx
   rcases List.mem_cons.mp hx with e |hx
   ·subst e
    exact VP I.hok (by rw[←hq.1];exact hq.2.1)
   ·exact ih x hx
 exact all r x hx
theorem Em.of {g:Heap}{d:Addr}{xs:List (List Key×Addr×Value)}(D:g.DictOfH (tupleKind (Yp X.prog X.w)) d xs):Em X g d xs:=by
 obtain⟨o,es,ep,h1,h2,h3,h4,_,h5⟩:=D
 exact⟨o,es,ep,h1,h2,h3,h4,h5⟩
theorem Em.at {g g':Heap}{d:Addr}{xs:List (List Key×Addr×Value)}(D:Em X g d xs)(k:∀o,g.get? d=some o->g'.get? d=some o):Em X g' d xs:=by
 obtain⟨o,es,ep,h1,r⟩:=D
 exact⟨o,es,ep,k o h1,r⟩
end
section
variable {K:PySem.W.Frag}{Er:Exc->Hp->Prop}{S:SC}{OO OO':List (List XA)}{σ:St}{α β γ:Type}
end
section
variable {K:PySem.W.Frag}{Er:Exc->Hp->Prop}{S:SC}{OO:List (List XA)}{σ:St}{α1 α2 α3 α4 α5 ρ:Type}{mg:Str->Option Value}{E:XK}
end
section
variable {X:Cx}{o e:Expr}{es:List Expr}{to:TE}{t:TA}{name:Str}{apos cpos:Pos}{id:String}{r:V->List V->Hp->VK->Prop}
end
section
variable {K:PySem.W.Frag}{Er:Exc->Hp->Prop}{S:SC}{OO:List (List XA)}{σ:St}
end
section
variable {α β γ δ:Type}{K:PySem.W.Frag}{Er:Exc->Hp->Prop}{S:SC}{OO:List (List XA)}{σ:St}{Fd:Ends->β->Hp->Prop}[fd:FdOk Fd]{u:TS}
end
end L2
namespace HT
open PySem PySem.Spec PyProof PyProof.Rows
section
variable {prog:Program}{w:World}{A:Around}{E:Value->Shared->Prop}{s:Shared}
end
end HT
namespace L2
open PySem PySem.Spec PyProof.Rows
section
variable {X:Cx}{e:Expr}{te:TE}
end
section
variable {α β:Type}{K:PySem.W.Frag}{Er:Exc->Hp->Prop}{S:SC}{OO:List (List XA)}{σ:St}
end
section
variable {α β:Type}{K:PySem.W.Frag}{Er:Exc->Hp->Prop}{S:SC}{OO:List (List XA)}{σ:St}{Fd:Ends->β->Hp->Prop}[fd:FdOk Fd]{u:TS}
theorem Et {r:Enc α}[MonoE r]{f:α->Rs β}{v:V}{a:Option α}(h:∀x,S.p x->Y0 r K x v a)(hr:∀b,Sv Er (S.add K r v b) OO σ u Fd (f b)):Sv Er S OO σ u Fd ((BQ a).bind f):=λH D w s P=>by
 cases a with
 |none=>exact P.elim
 |some b=>exact hr b H D w ⟨s,(h _ s).2⟩ P
end
section
variable {K:PySem.W.Frag}{Er:Exc->Hp->Prop}{S:SC}{OO OO' OO2:List (List XA)}{σ:St}{α β γ ρ ι:Type}{mg:Str->Option Value}{E:XK}{u:TS}
theorem Be {Fd:Ends->β->Hp->Prop}{r:Enc α}{q:Enc γ}[MonoE q]{f:γ->Rs β}{v:V}{a:α ⊕ γ}(h:∀x,S.p x->rEi r q K x v a)(hr:∀b,Sv Er (S.add K q v b) OO σ u Fd (f b)):Sv Er S OO σ u Fd ((getR a).bind f):=λH D w s P=>by
 cases a with
 |inl a=>exact P.elim
 |inr b=>exact hr b H D w ⟨s,h _ s⟩ P
end
section
variable {α:Type}
structure SBk (κ:SortKind)(a₀:Array Keyed)(st:SortSt):Prop where
 perm:(arrOf st).Perm a₀
 kind:kindOf st=κ
 failed:failedOf st=none
 pend:pendingOf st= #[]
theorem SBk.size {κ:SortKind}{a₀:Array Keyed}{st:SortSt}(h:SBk κ a₀ st):(arrOf st).size=a₀.size:=h.perm.size_eq
structure AskK (prog:Program)(w:World)(A:Around)(E:Value->Shared->Prop)(s:Shared)(lt:α->α->Bool)(kf:Value->α)(d:α)(a0:Array Keyed)(κ:SortKind):Prop extends Ord lt where
 ask:∀{st:SortSt}{i j:Nat}{Q:Option Bool->SortSt->Prop},SBk κ a0 st->i<a0.size->j<a0.size->Q (some (lt (kp kf d (arrOf st) i) (kp kf d (arrOf st) j))) st->wpS (model prog w) A E s (ltAt' i j) Q st
 two:∀{st:SortSt}{i j:Nat},SBk κ a0 st->i<a0.size->j<a0.size->i≠j->lt (kp kf d (arrOf st) i) (kp kf d (arrOf st) j)=true∨lt (kp kf d (arrOf st) j) (kp kf d (arrOf st) i)=true
variable {prog:Program}{w:World}{A:Around}{E:Value->Shared->Prop}{s:Shared}{lt:α->α->Bool}{kf:Value->α}{d:α}{a0:Array Keyed}{κ:SortKind}
theorem AskK.other (L:AskK prog w A E s lt kf d a0 κ){st:SortSt}{i j:Nat}(B:SBk κ a0 st)(hi:i<a0.size)(hj:j<a0.size)(n:i≠j)(h:lt (kp kf d (arrOf st) i) (kp kf d (arrOf st) j)=false):lt (kp kf d (arrOf st) j) (kp kf d (arrOf st) i)=true:=(L.two B hi hj n).resolve_left (by rw[h];decide)
end
section
variable {prog:Program}{w:World}{A:Around}{E:Value->Shared->Prop}{s:Shared}{α:Type}
end
section
variable {X:Cx}
end
section
variable {prog:Program}{w:World}{A:Around}{E:Value->Shared->Prop}{s:Shared}
end
section
variable {X:Cx}{o:Expr}{lo hi:Option Expr}{pos p2:Pos}{to:TE}{tl th:TO}
end
section
variable {X:Cx}{pins:List (Addr×Obj)}{σ:St}{H G:Hp}{s:Shared}{h':Heap}
end
section
variable {X:Cx}{l:Expr}{tl:TE}{pos npos apos cpos:Pos}
end
section
variable {X:Cx}
end
inductive Mx where
 |i (n:Int) |s (x:Str) |b (v:Bool)
 deriving DecidableEq
noncomputable def Mx.v:Mx->V
 | .i n=>.int n
 | .s x=>.str x
 | .b v=>.bl v
section
variable {K:PySem.W.Frag}{Er:Exc->Hp->Prop}{S:SC}{OO OO' OO1 OO2 OO3:List (List XA)}{σ:St}{α β γ δ ρ:Type}{u:TS}
end
section
variable {K:PySem.W.Frag}{Er:Exc->Hp->Prop}{S:SC}{OO OO' OO1 OO2 OO3:List (List XA)}{σ:St}{α β γ δ ρ ι:Type}{α1 α2 α3 α4 α5:Type}{u:TS}
variable {Fd:Ends->β->Hp->Prop}[fd:FdOk Fd]
theorem EvP.st {t:TO}{m:Rs (Option Int)}(he:EvP Er S OO σ t m){H:Hp}{D:Ends}{Q:Option Int->Hp->Prop}(w:W OO H)(s:S.p (hid H OO)){f:Option Int->Rs β}(P:PZ Er (Fd D) (hid H OO) (m.bind f))
  (hk:∀a H',Xw H H'->W OO H'->S.p (hid H' OO)->PZ Er (Fd D) (hid H' OO) (f a)->Q a H'):t σ H Q:=by
 refine he H Q w s ?_
 cases m with
 |bad=>exact P
 |err x=>exact λH' s'=>P H' (XB.trans s')
 |ok a=>exact λH' s'=>hk a H' s' (w.keep s') (S.mono _ _ (Xn s') s) (PZ.tr (fd.tr D) (Xn s') P)
section
variable {o:OE ρ}{kf:Nat}{Cf:List XA}{J:Jn γ ι}
end
end
section
variable {K:PySem.W.Frag}{Er:Exc->Hp->Prop}{S:SC}{OO:List (List XA)}{σ:St}{α β γ ρ ι:Type}{u:TS}{Fd:Ends->β->Hp->Prop}[fd:FdOk Fd]
end
theorem Vo (f:Array Value->Array Value)(o:Obj):(Obj.mapFields f o).dict=o.dict:=by
 unfold Obj.mapFields;split<;> rfl
noncomputable def TrD (h base:Heap)(e:Addr)(cls:Value)(od:Option Addr)(fl:Value):Prop:=
 ∃oe vs T oT ts,h.get? e=some oe/\(oe.cls=cls/\oe.dict=od)/\oe.data= .fields vs/\vs[1]?=some (.ref T)/\base.get? T=none/\T≠e/\h.get? T=some oT/\oT.data= .fields ts/\ts[3]?=some fl
structure FyD (base:Heap)(l:List Env)(e:Addr)(cls:Value)(od:Option Addr)(fl:Value)(h:Heap):Prop where
 stay:base.StaysIn h
 new:base.get? e=none
 frames:h.FunFrames base l
 tr:TrD h base e cls od fl
section
variable {M:Model}{A:Around}{E:Value->Shared->Prop}{s:Shared}{base:Heap}{env:Env}{outer l:List Env}{L e:Addr}{oe:Obj}{vs:Array Value}{head cls fl:Value}{od:Option Addr}{Q:Unit->Shared->Prop}
theorem BA {hadNext:Bool}(hfr:A.frames=some (env::outer))(hl:s.heap.FunFrames base (env::outer))(hf:env.frame=some L)(he:s.heap.get? e=some oe)(hkb:base.StaysIn s.heap)(hen:base.get? e=none)(hd:oe.data= .fields vs)(hsz:1<vs.size)
  (h:∀h',FyD base (env::outer) e oe.cls oe.dict (rawInt L) h'->s.heap.UpToSlots h'->Q () {s with heap:=h'}):
  wpAny M A (do let a ←frameOf env;let pl ←entryPlaceOf L hadNext;let b ←EntryCells.newEntry head a .none (rawInt L) .none pl;setField (.ref e) 1 b) Q E s:=by
 have hne:e∉frs (env::outer):=λhm=>by
  obtain⟨_,o,ho,hnf⟩:=hl.mem hm
  rw[he] at ho;cases ho;exact hnf vs hd
 refine wpAny_bind (wpAny_frameOf_fun hfr hl hf λh₁ hs₁=>wpAny_bind (wpAny_entryPlaceOf λpl hpl=>?_))
 unfold EntryCells.newEntry newFields
 refine wpAny_bind (wpAny_newObj_type ?_ (hpl.sizeOk5 _ _ _ _ _))
 have he₁:h₁.get? e=some oe:=(hs₁.2.1 e hne).trans he
 have kb₁:base.StaysIn h₁:=λb o hbo=>(hs₁.2.1 b λhm=>by rw[(hl.mem hm).1] at hbo;cases hbo).trans (hkb b o hbo)
 generalize hN:({cls:=.type "traceback",dict:=none,data:=.fields ([head, .ref L, .none,rawInt L, .none]++(if pl.isEmpty then List.replicate 6 Value.none else pl)).toArray}:Obj)=oN
 have dN:oN.data= .fields ([head, .ref L, .none,rawInt L, .none]++(if pl.isEmpty then List.replicate 6 Value.none else pl)).toArray:=by rw[←hN]
 have he₂:=Heap.get?_push_of_some (h:=h₁) oN he₁
 refine wpAny_setField he₂ hd hsz ?_
 have hTe:h₁.objs.size≠e:=Nat.ne_of_gt (Heap.lt_size he₁)
 have hd₃:=Obj.data_mapFields hd (·.setIfInBounds 1 (Value.ref h₁.objs.size))
 have he₃:=Heap.get?_update_self (Obj.mapFields (·.setIfInBounds 1 (Value.ref h₁.objs.size))) he₂ (Obj.isFreed_of_fields hd₃)
 have hT₃:=(Heap.get?_update_other (h₁.push oN) (Obj.mapFields (·.setIfInBounds 1 (Value.ref h₁.objs.size))) (Ne.symm hTe)).trans (Heap.get?_push_size h₁ (Obj.isFreed_of_fields dN))
 have keep:∀b o,b≠e->h₁.get? b=some o->((h₁.push oN).update e (Obj.mapFields (·.setIfInBounds 1 (Value.ref h₁.objs.size)))).get? b=some o:=λb o hbe hb=>by
  rw[Heap.get?_update_other _ _ (Ne.symm hbe)]
  exact Heap.get?_push_of_some _ hb
 have nr:∀b o,s.heap.get? b=some o->(∀vs,o.data≠ .fields vs)->b≠e:=λb o hb hnf q=>by
  rw[q,he] at hb;cases hb;exact hnf vs hd
 refine h _ ⟨λb o hbo=>keep b o (λq=>by rw[q,hen] at hbo;cases hbo) (kb₁ b o hbo),hen,hl.of_keeps λb o hb hnf=>?_,?_⟩ λb o hb hnf=>?_
 ·obtain⟨sl,hs⟩:=hs₁.2.2 b o hb
  exact⟨_,keep b _ (nr b o hb hnf) hs,rfl⟩
 ·exact⟨_,_,h₁.objs.size,oN,_,he₃,⟨Obj.cls_mapFields _ _,Vo _ _⟩,hd₃,by simp[hsz],kb₁.fresh,hTe,hT₃,dN,rfl⟩
 ·obtain⟨sl,hs⟩:=hs₁.2.2 b o hb
  exact⟨sl,keep b _ (nr b o hb hnf) hs⟩
theorem HB (hfr:A.frames=some (env::outer))(hl:s.heap.FunFrames base (env::outer))(hf:env.frame=some L)(he:s.heap.get? e=some oe)(hkb:base.StaysIn s.heap)(hen:base.get? e=none)(hd:oe.data= .fields vs)(h1:vs[1]?=some .none)
  (h:∀h',FyD base (env::outer) e oe.cls oe.dict (rawInt L) h'->s.heap.UpToSlots h'->Q () {s with heap:=h'}):wpAny M A (noteFrame (.ref e) env) Q E s:=by
 unfold noteFrame
 simp only[hf]
 refine wpAny_bind (wpAny_field he hd h1 ?_)
 rw[if_neg (by decide)]
 exact BA hfr hl hf he hkb hen hd (Array.getElem?_eq_some_iff.mp h1).1 h
theorem IV (hfr:A.frames=some (env::outer))(hf:env.frame=some L)(x:FyD base (env::outer) e cls od .none s.heap)
  (h:∀h',FyD base (env::outer) e cls od (rawInt L) h'->s.heap.UpToSlots h'->Q () {s with heap:=h'}):wpAny M A (noteFrame (.ref e) env) Q E s:=by
 obtain⟨hkb,hen,hl,oe,vs,T,oT,ts,he,⟨hc,hdi⟩,hd,h1,hnT,hTe,hT,hdT,h3⟩:=x
 subst hc hdi
 unfold noteFrame
 simp only[hf]
 refine wpAny_bind (wpAny_field he hd h1 ?_)
 rw[if_pos (show(Value.ref T !=Value.none)=true from by simp)]
 refine wpAny_bind (wpAny_field hT hdT h3 ?_)
 rw[if_neg (show ¬((Value.none==rawInt L)=true) from by simp[rawInt])]
 refine wpAny_bind (wpAny_setField hT hdT (Array.getElem?_eq_some_iff.mp h3).1 ?_)
 have other:∀b,b≠T->(s.heap.update T (Obj.mapFields (·.setIfInBounds 3 Value.none))).get? b=s.heap.get? b:=λb hb=>Heap.get?_update_other _ _ (Ne.symm hb)
 have nr:∀b o,s.heap.get? b=some o->(∀vs,o.data≠ .fields vs)->b≠T:=λb o hb hnf q=>by
  rw[q,hT] at hb;cases hb;exact hnf ts hdT
 refine BA hfr (hl.of_keeps λb o hb hnf=>⟨o,(other b (nr b o hb hnf)).trans hb,rfl⟩) hf ((other e (Ne.symm hTe)).trans he) (λb o hbo=>(other b λq=>by rw[q,hnT] at hbo;cases hbo).trans (hkb b o hbo)) hen hd (Array.getElem?_eq_some_iff.mp h1).1
  λh' y up=>h h' y λb o hb hnf=>up b o ((other b (nr b o hb hnf)).trans hb) hnf
theorem Es (x:FyD base l e cls od fl s.heap)(h:∀h',FyD base l e cls od .none h'->s.heap.UpToSlots h'->Q () {s with heap:=h'}):wpAny M A (setFlight (.ref e) none) Q E s:=by
 obtain⟨hkb,hen,hl,oe,vs,T,oT,ts,he,hc,hd,h1,hnT,hTe,hT,hdT,h3⟩:=x
 have hsz:3<ts.size:=(Array.getElem?_eq_some_iff.mp h3).1
 have other:∀b,b≠T->(s.heap.update T (Obj.mapFields (·.setIfInBounds 3 ((none:Option Addr).elim Value.none λf=>rawInt f)))).get? b=s.heap.get? b:=λb hb=>Heap.get?_update_other _ _ (Ne.symm hb)
 have nr:∀b o,s.heap.get? b=some o->(∀vs,o.data≠ .fields vs)->b≠T:=λb o hb hnf q=>by
  rw[q,hT] at hb;cases hb;exact hnf ts hdT
 unfold setFlight
 refine wpAny_bind (wpAny_field he hd h1 ?_)
 rw[if_pos (show(Value.ref T !=Value.none)=true from by simp)]
 refine wpAny_setField hT hdT hsz (h _ ⟨λb o hbo=>(other b λq=>by rw[q,hnT] at hbo;cases hbo).trans (hkb b o hbo),hen,hl.of_keeps λb o hb hnf=>⟨o,(other b (nr b o hb hnf)).trans hb,rfl⟩,?_⟩ λb o hb hnf=>⟨o.slots,(other b (nr b o hb hnf)).trans hb⟩)
 exact⟨oe,vs,T,_,_,(other e (Ne.symm hTe)).trans he,hc,hd,h1,hnT,hTe,Heap.get?_update_self _ hT (Obj.isFreed_of_fields (Obj.data_mapFields hdT _)),Obj.data_mapFields hdT _,by simp[hsz]⟩
theorem EI (hfr:A.frames=some (env::outer))(hl:s.heap.FunFrames base (env::outer))(hf:env.frame=some L)(he:s.heap.get? e=some oe)(hkb:base.StaysIn s.heap)(hen:base.get? e=none)(hd:oe.data= .fields vs)(h1:vs[1]?=some .none)
  (h:∀h',FyD base (env::outer) e oe.cls oe.dict .none h'->s.heap.UpToSlots h'->Q () {s with heap:=h'}):wpAny M A (leaving env (.ref e)) Q E s:=by
 unfold leaving
 exact wpAny_bind (HB hfr hl hf he hkb hen hd h1 λh1 x1 u1=>Es x1 λh2 x2 u2=>h h2 x2 (u1.trans u2))
end
structure FlD (h0 h:Heap)(H:Hp)(a T:Addr)(cls:Value)(od:Option Addr):Prop where
 na:h0.get? a=none
 nT:h0.get? T=none
 fa:H a=none
 fT:H T=none
 ne:T≠a
 obj:∃oe vs oT ts,h.get? a=some oe/\(oe.cls=cls/\oe.dict=od)/\oe.data= .fields vs/\vs[1]?=some (.ref T)/\h.get? T=some oT/\oT.data= .fields ts/\ts[3]?=some Value.none
section
variable {P:Program}{w:World}{h0 h h' base:Heap}{H:Hp}{a T:Addr}{cls:Value}{od:Option Addr}{l:List Env}
theorem FlD.fly (x:FlD h0 h H a T cls od)(hl:h.FunFrames base l):FyD (Cd h (frs l) a T) l a cls od .none h:=by
 obtain⟨oe,vs,oT,ts,ha,hc,hd,h1,hT,hdT,h3⟩:=x.obj
 exact⟨λb o e=>(V2 e).1,Zh (.inr (.inl rfl)),Uo hl λb hb=>Zh (.inl hb),oe,vs,T,oT,ts,ha,hc,hd,h1,Zh (.inr (.inr rfl)),x.ne,hT,hdT,h3⟩
theorem FlD.after (x:FlD h0 h H a T cls od)(hl:h.FunFrames base l)(hfn:∀b∈frs l,H b=none)(hok:HOk P w H h)(th:∀b o,h0.get? b=some o->∃o',h.get? b=some o')
  (fy:FyD (Cd h (frs l) a T) l a cls od .none h')(up:h.UpToSlots h'):∃T',FlD h0 h' H a T' cls od/\HOk P w H h'/\Un (frs l) [a,T] H H h h':=by
 obtain⟨st,_,_,oe,vs,T',oT,ts,ha,hc,hd,h1,hnT,hne,hT,hdT,h3⟩:=fy
 have key:T'=T∨h.get? T'=none:=by
  cases q:h.get? T' with
  |none=>exact .inr rfl
  |some o=>
   by_cases hf:T'∈frs l
   ·obtain⟨_,o2,ho2,hd2⟩:=hl.mem hf
    obtain⟨sl,e2⟩:=up T' o2 ho2 hd2
    rw[hT] at e2;cases e2
    exact absurd hdT (hd2 ts)
   ·by_cases hz:T'=T
    ·exact .inl hz
    ·rw[Qh q hf hne hz] at hnT;cases hnT
 have keep:∀b o,b∉frs l->b≠a->b≠T->h.get? b=some o->h'.get? b=some o:=λb o n1 n2 n3 e=>st b o (Qh e n1 n2 n3)
 refine⟨T',⟨x.na,?_,x.fa,?_,hne,oe,vs,oT,ts,ha,hc,hd,h1,hT,hdT,h3⟩,hok.traced hfn x.fa x.fT keep,Un.traced hl keep up⟩
 ·rcases key with e |e
  ·rw[e];exact x.nT
  ·cases q:h0.get? T' with
   |none=>rfl
   |some o=>obtain⟨o',e'⟩:=th _ _ q;rw[e] at e';cases e'
 ·rcases key with e |e
  ·rw[e];exact x.fT
  ·exact hok.un0 e
end
noncomputable def CXD (P:Program)(w:World):CXT:=λouter H s E e s'=>∃ a T C od H',e= .ref a/\FlD s.heap s'.heap H' a T (.ref C) od/\s'.os=s.os/\AllBare s'.gens/\Un (frs outer) [] H H' s.heap s'.heap/\HOk P w H' s'.heap/\E (.ref C) od H'
theorem Dk {P:Program}{w:World}{X:Cx}:VV (CXD P w) X E0:=λ_ _ _ _ _ _ _ r9=>by obtain⟨_,_,_,_,_,_,_,_,_,_,_,q⟩:=r9;exact q.elim
section
variable {P:Program}{w:World}{K:PySem.W.Frag}{mg:Str->Option Value}{base:Heap}{N:List Str}{qual:Str}{scope:Scope}{f:Addr}{cd:Value}{A:Around}{outer:List Env}{s0:Shared}{H0:Hp}{E:XK}
noncomputable def Dy (X:Cx)(E:XK):Prop:=∀ (pins:List (Addr×Obj)) (σ:St) (H:Hp) (s:Shared) (C e:Addr) (oe:Obj) (vs:Array Value),Inv X pins σ H s->X.s₀.heap.get? e=none->H e=none->s.heap.get? e=some oe->oe.cls= .ref C->oe.data= .fields vs->vs[1]?=some .none->E (.ref C) oe.dict H->X.xe (.ref e) s
theorem IC:Dy (G0 (CXD P w) P w K mg base N qual scope f cd A outer s0 H0 E) E:=by
 intro pins σ H s C e oe vs I hn0 fe he hc hd hv q
 have nn:∀b,s.heap.get? b=none->s0.heap.get? b=none:=λb n=>by
  cases q:s0.heap.get? b with
  |none=>rfl
  |some o=>obtain⟨o',e⟩:=I.base.there b o q (λz=>nomatch z);rw[n] at e;cases e
 refine EI (base:=Cd s.heap (frs (G0 (CXD P w) P w K mg base N qual scope f cd A outer s0 H0 E).stack) e e) I.ok.frames (Uo I.stack λb hb=>Zh (.inl hb)) rfl he (λb o z=>(V2 z).1) (Zh (.inr (.inl rfl))) hd hv λh2 fl up2=>?_
 obtain⟨st,_,_,oe2,us,T,oT,ts,ha,hc2,hd2,h1,hnT,hne,hT,hdT,h3⟩:=fl
 have hT0:s.heap.get? T=none:=by
  cases q:s.heap.get? T with
  |none=>rfl
  |some o=>
   by_cases hf:T∈frs (G0 (CXD P w) P w K mg base N qual scope f cd A outer s0 H0 E).stack
   ·obtain⟨_,o2,ho2,hd2⟩:=I.stack.mem hf
    obtain⟨sl,e2⟩:=up2 T o2 ho2 hd2
    rw[hT] at e2;cases e2
    exact absurd hdT (hd2 ts)
   ·rw[Qh q hf hne hne] at hnT;cases hnT
 have keep:∀b o,b∉frs (G0 (CXD P w) P w K mg base N qual scope f cd A outer s0 H0 E).stack->b≠e->b≠T->s.heap.get? b=some o->h2.get? b=some o:=λb o n1 n2 _ z=>st b o (Qh z n1 n2 n2)
 have fT:=I.hok.un0 hT0
 refine⟨e,T,C,oe.dict,H,rfl,⟨hn0,nn _ hT0,fe,fT,hne,oe2,us,oT,ts,ha,⟨hc2.1.trans hc,hc2.2⟩,hd2,h1,hT,hdT,h3⟩,I.os,I.bare,I.base.past (Un.traced I.stack keep up2) (λb hb=>?_) λb hb=>?_,I.hok.traced I.stkFree fe fT keep,q⟩
 ·rcases List.mem_cons.mp hb with z |z
  ·rw[z];exact hn0
  ·rw[List.mem_singleton.mp z];exact nn _ hT0
 ·rcases List.mem_cons.mp (I.stkSub b hb) with z |z
  ·exact .inr (z▸Heap.get?_none_of_le I.ok.above)
  ·exact .inl z
end
structure FnD (P:Program)(w:World)(K:PySem.W.Frag)(mg:Str->Option Value)(base:Heap)(k:Nat)(x:Str)(ps:List Str)(sp:Sp):Prop where
 ex:∃f fd,FnOk P w K mg base (CXD P w) k f fd ps sp/\Vt K fd ps []/\PySem.W.keepIn K (.ref f)=true/\mg x=some (.ref f)
section
variable {X:Cx}{k j:Nat}{x:Str}{ps:List Str}{sp:Sp}{e:Expr}{es:List Expr}{t:TA}{p pos:Pos}{E:XK}
theorem By (G:FnD X.prog X.w X.K X.mg X.base k x ps sp)(hr:Room j X.A)(hj:k<=j)(hx:VV (CXD X.prog X.w) X E)(ha:PA X (e::es) t)(hg:Gl X x:=by rfl)(hdb:(x==("__debug__":Str))=false:=by decide)
  (he:starEach (e::es) X.env=(false,eval e X.env)::starEach es X.env:=by rfl)(hpl:(backTo pos (starEach es X.env)).any (·.1)=false:=by rfl):
  PE X (.Call (.Name x p) (e::es) [] pos) (UW sp [] E t):=by
 obtain⟨f,fd,F,b,kp,m⟩:=G.ex
 exact Fa F (hr.mono hj) hg m kp b .nil hx ha hdb he hpl
end
theorem Ip {P:Program}{w:World}{K:PySem.W.Frag}{mg:Str->Option Value}{base:Heap}{x:Str}{st:Stmt}{N ps:List Str}{k:Nat}{sp:Sp}(D:Def K mg x st ps)(S:FnScope N ps (Xk st))(len:∀vs H Q E,sp vs H Q E->vs.length=ps.length)
  (hbody:∀(f:Addr) (cdv:Value) (A:Around) (outer:List Env) (s:Shared) (H:Hp) (vs:List V) (Q:VK) (E:XK),Room k (A.deeper (envOfC x (Xk st) s.heap.objs.size f cdv))->sp vs H Q E->
   ∃t,PSs (G0 (CXD P w) P w K mg base N x (Xk st) f cdv A outer s H E) (Yi st) t/\t {nx:=λ_ H'=>Q .non H',rt:=Q} (Vw N vs) H):FnD P w K mg base (k+1) x ps sp:=by
 obtain⟨f,fd,F,b,m⟩:=D
 obtain⟨oc,od,kV,doc,pm,an,cdv,ct,osl,rfl,lk,hcd⟩:=F.ex
 exact⟨f,_,Ej lk hcd S len λA outer s H vs Q E hr hsp=>hbody f cdv A outer s H vs Q E hr hsp,b,F.kp,m⟩
end L2
namespace L2
open PySem PySem.Spec PyProof.Rows PySem.W PySem.Builtin PySem.Builtin.ObjectAttr
section
variable {prog:Program}{w:World}{A:Around}{E:Value->Shared->Prop}{K:Frag}{x C P:Addr}{s:Shared}{cd:ClassData}{vs:Array Value}{sl:Array (Option Value)}{name:Str}{v:Value}
theorem IF {Q:Unit->Shared->Prop}(X:K.In s.heap)(hx:s.heap.get? x=some ⟨.ref C,none, .fields vs,sl⟩)(hc:clsIn K C=some cd)(hm:cd.mro= .ref C:: .ref P::vEr)(hd:cd.hasDict=true)
  (hs:findIn K (.ref C) "__setattr__" =some (some (.builtin "object.__setattr__")))(hn:findIn K (.ref C) name=some none)
  (h:∀h' dx tk,s.heap.get? dx=none->h'.get? x=some ⟨.ref C,some dx, .fields vs,sl⟩->h'.Ns1 dx (λy=>if y=name then some v else none)->(∀b o,b≠x->s.heap.get? b=some o->h'.get? b=some o)->Q () {s with heap:=h',toks:=tk}):
  wpAny (model prog w) A (setAttr (.ref x) name v) Q E s:=by
 have I:InstAt s.heap x ⟨.ref C,none, .fields vs,sl⟩ C none:=⟨hx,rfl,rfl,trivial⟩
 refine set_plain X I hs ?_
 have SF:=PySem.F.store_object
 have hmro:Looks (model prog w) s.heap (mroOf (.ref C)) cd.mro:=(looks_clsIn X hc).andThen .now
 have sub:Looks (model prog w) s.heap (isInstance (.ref x) (.type "object")) true:=I.type.andThen (looks_mroIn X (by unfold mroIn;rw[hc,Option.bind_some,hm];rfl))
 refine codeAny_call_builtin SF.slot.plain SF.entry (@check_slot (model prog w) _ _ _ "object.__setattr__" "object" "__setattr__" (.ref x) [.str name _,v] [] _ SF.kind SF.split sub (SF.args (.ref x) (.str name _) v) ?_)
 rw[osa_eq,refuse_eq]
 refine wpAny_bind (wpAny_bind (I.type.at (wpAny_bind (hmro.at ?_))))
 rw[hm,refuseLoop_ref,refuseLoop_ref,PySem.F.store_ValueError.passes]
 refine wpAny_pure (wpAny_bind (I.type.at (wpAny_bind ((looks_findIn X hn).at (wpAny_bind ?_)))))
 refine wpAny_pure ?_
 refine wpAny_bind (wpAny_pure (wpAny_bind (wpAny_bind (wpAny_loadPart hx (wpAny_bind ((looks_clsIn X hc).at ?_))))))
 rw[hd]
 dsimp only
 rw[if_neg (show ¬((!true)=true) by decide),if_neg (show ¬((!true || !typeHasDict (Value.ref C))=true) by simp[typeHasDict])]
 refine wpAny_bind (wpAny_alloc' ?_)
 have hx₁:(s.heap.push {cls:=.type "dict",data:=.dict #[]}).get? x=some ⟨.ref C,none, .fields vs,sl⟩:=Heap.get?_push_of_some _ hx
 have hxs:x≠s.heap.objs.size:=Nat.ne_of_lt (Heap.lt_size hx)
 refine wpAny_bind (wpAny_update' hx₁ ?_)
 refine wpAny_pure ?_
 have hgd:((s.heap.push {cls:=.type "dict",data:=.dict #[]}).update x λo=>{cls:=o.cls,dict:=some s.heap.objs.size,data:=o.data,slots:=o.slots}).get? s.heap.objs.size=some {cls:=.type "dict",data:=.dict #[]}:=
  (Heap.get?_update_ne _ _ _ _ hxs.symm).trans (Heap.get?_push_at rfl rfl)
 have hnd:((s.heap.push {cls:=.type "dict",data:=.dict #[]}).update x λo=>{cls:=o.cls,dict:=some s.heap.objs.size,data:=o.data,slots:=o.slots}).Ns s.heap.objs.size (λ_=>none):=
  ⟨_, #[],_,hgd,rfl,λe he=>absurd he (by simp),λ_=>rfl⟩
 show wpAny _ _ (storeInDict s.heap.objs.size (.str name s.toks) name v) _ _ _
 unfold storeInDict newKeyGuard
 refine wpAny_bind (wpAny_pure (wpAny_bind (wpAny_nsSet1 (Heap.Ns1.of_empty hnd) λh' hn' hs'=>?_)))
 obtain⟨oD,esD,epD,hoD,hdD,hcD⟩:=hn'.count (Within.cons name v Within.nil)
 refine wpAny_bind (wpAny_lookBehind hoD (by rw[hdD];exact pastItsLine_dict (Nat.le_trans hcD (by rw[List.length_cons,List.length_nil,sizeLine_eq];(first|lia|omega)))) ?_)
 refine wpAny_pure (h h' s.heap.objs.size _ (Heap.get?_none_of_le (Nat.le_refl _)) ?_ hn' λb o hb e=>?_)
 ·exact(hs'.2 x hxs).trans (Heap.get?_update_self _ hx₁ rfl)
 ·exact(hs'.2 b (Nat.ne_of_lt (Heap.lt_size e))).trans ((Heap.get?_update_ne _ _ _ _ hb).trans (Heap.get?_push_of_some _ e))
theorem getD {expr:Bool}{Q:Value->Shared->Prop}{dx:Addr}{mA:Str->Option Value}(X:K.In s.heap)(hx:s.heap.get? x=some ⟨.ref C,some dx, .fields vs,sl⟩)(hns:s.heap.Ns1 dx mA)(hv:mA name=some v)(hh:handedIn v=true)
  (ga:findIn K (.ref C) "__getattribute__" =some (some (.builtin "BaseException.__getattribute__")))(gh:findIn K (.ref C) "__getattr__" =some none)(mb:mroIn K C (.type "BaseException")=some true)(hd:hasDictIn K C=true)(hn:findIn K (.ref C) name=some none)
  (h:Q v {s with toks:=s.toks+1}):wpAny (model prog w) A (getAttr (.ref x) name expr) Q E s:=by
 obtain⟨hh',g,d,t,os⟩:=s
 obtain⟨oD,es,ep,hoD,hdD,hks,hnd,hfi⟩:=id hns
 have I:InstAt hh' x ⟨.ref C,some dx, .fields vs,sl⟩ C (some oD):=⟨hx,rfl,rfl,hoD⟩
 have hl:lookIn name oD=some (some v):=by
  unfold lookIn
  rw[hdD]
  have q:=hfi name
  rw[hv] at q
  unfold nsFind findBy at q
  rw[←Array.find?_toList] at q
  dsimp only
  cases z:List.find? (λx=>x.key.isStr name) es.toList with
  |none=>rw[z] at q;cases q
  |some en=>rw[z] at q;exact congrArg some q
 have L0:=I.type (M:=model prog w)
 have L1:=looks_findIn (M:=model prog w) X ga
 have L2:=looks_findIn (M:=model prog w) X gh
 have LB:=looks_mroIn (M:=model prog w) X mb
 have LF:=looks_find (M:=model prog w) X I (findObj_own hd hn rfl hl)
 have f3:=PySem.F.attr_ValueError.ga.bind (.ref x)
 have hx2:(Value.builtin "BaseException.__getattribute__" ==Value.builtin "object.__getattribute__")=false:=by decide+kernel
 unfold getAttr getAttrBy
 refine wpAny_bind (wpAny_mkText (wpAny_holding (wpAny_bind (L0.at (wpAny_bind (L1.at ?_))))))
 dsimp only
 rw[hx2,Bool.and_false,if_neg Bool.false_ne_true]
 unfold getAttrByItsOwn hookBefore callGetattribute boundAndCalled
 refine wpAny_bind (L2.at ?_)
 have hx0:(expr&&onTheHeap (Value.builtin "BaseException.__getattribute__"))=false:=by cases expr<;> rfl
 refine wpAny_bind (wpAny_attempt (wpAny_holding ?_))
 rw[hx0,if_neg Bool.false_ne_true,f3]
 refine wpAny_bind (wpAny_pure ?_)
 refine wpAny_call (codeAny_call_builtin PySem.F.attr_ValueError.ga.plain PySem.F.entry_bexc_ga ?_)
 have hk:builtinKind "BaseException.__getattribute__" =some .slot:=by decide+kernel
 have hsplit:splitId "BaseException.__getattribute__" =some ("BaseException","__getattribute__"):=by decide+kernel
 have ha:=PySem.F.args_bexc_ga (.ref x) (Value.str name t)
 simp only[checkBuiltinCall,hk,hsplit]
 unfold isInstance
 refine wpAny_bind (wpAny_bind (L0.at ?_))
 refine LB.at ?_
 rw[if_neg (by decide)]
 have fin:∀s1:Shared,s1=⟨hh',g,d,t+1,os⟩->wpAny (model prog w) A.in1 («object.__getattribute__» {pos:=[Value.ref x]++[Value.str name t]}) (λfin s'=>match fin with | .done (.ret u)=>u=v/\s'=s1 |_=>False) (λ_ _=>False) s1:=by
  intro s1 hs1
  subst hs1
  unfold «object.__getattribute__» bindTo
  repeat (any_goals lk)
  exact⟨rfl,rfl⟩
 unfold argsOk at ha
 have sg2:∀sig,Manifest.signature? "BaseException.__getattribute__" =some sig->Bind.checkArgs "BaseException.__getattribute__" sig {pos:=[Value.ref x,Value.str name t]}=pure ():=λsig e=>by
  rw[e] at ha
  exact ha
 have Y1:∀{P:Unit->Shared->Prop}{E':Value->Shared->Prop}{s1:Shared},P () s1->wpAny (model prog w) A.in1 (match Manifest.signature? "BaseException.__getattribute__" with |some sig=>Bind.checkArgs "BaseException.__getattribute__" sig {pos:=[Value.ref x]++[Value.str name t]} |_=>pure ()) P E' s1:=fun {P E' s1} p=>by
  split
  ·rename_i sig e
   rw[show[Value.ref x]++[Value.str name t]=[Value.ref x,Value.str name t] from rfl,sg2 sig e]
   exact wpAny_pure p
  ·exact wpAny_pure p
 refine Y1 ?_
 refine wpAny_mono (fin _ rfl) (λfi s' z=>?_) λ_ _ z=>z.elim
 rcases fi with(_ |_ |_ |u) |_
 all_goals first |exact z.elim |skip
 obtain⟨rfl,rfl⟩:=z
 show wpAny _ _ (handedOut _) _ _ _
 rw[handedOut_of hh]
 exact wpAny_pure h
end
section
variable {prog:Program}{w:World}{A:Around}{E:Value->Shared->Prop}{h:Heap}{g:Array GenState}{d:Drawn}{t:Nat}{os:OsState}
variable {nm q:Str}{C N:Addr}{bs bm bmB:List Value}{hdct:Bool}{sn:List Str}{sub:List Value}{ab:Bool}{col:Option Bool}{dd:Option Addr}{k0 k1 k2 k3 k5:Option Value}
theorem IH {K:Frag}{Y1:List Value}{fI:Addr}{Q:Fin->Shared->Prop}(X:K.In h)(T:OwnTail h vEr bm)
  (hC:h.get? C=some (excClassObj nm q C N bs bm hdct sn sub ab col dd k0 k1 k2 k3 k5 "ValueError.__new__"))(hi:findIn K (.ref C) "__init__" =some (some (.ref fI)))(hf:isFn K (.ref fI)=true)
  (hq:∀h' e,Heap.MadeExcOf h h' e (.ref C) Y1->wpAny (model prog w) A (call (.ref fI) (.ref e::Y1)) (λr s'=>r= .none/\Q (.done (.ret (.ref e))) s') E ⟨h',g,d,t,os⟩)(hrest:Y1.length<=sizeLine):
  wpAny (model prog w) A (Builtin.«type.__call__» ⟨.ref C::Y1,[]⟩) Q E ⟨h,g,d,t,os⟩:=by
 have Fn:=PySem.F.excBase_ValueError
 repeat (first |with_reducible refine wpAny_loadPart_at hC ?_ |with_reducible refine wpAny_madeBy_exc hC ?_ |wp_step)
 refine codeAny_call_builtin_code (Code.quiet_builtin _ Fn.quiet) (wpAny_check_new_subU Fn (bmB:=vEr) rfl T hC ?_)
 refine codeAny_exc_new_subU Fn (bmB:=vEr) rfl Fn T hC ?_ hrest
 show wpAny _ _ _ _ _ _
 have kp:∀b o,h.get? b=some o->((h.push {cls:=.type "tuple",data:=.seq Y1.toArray}).push {cls:=.ref C,data:=.fields #[.ref h.objs.size, .none, .none, .none, .bool false, .none]}).get? b=some o:=λb o hb=>Heap.get?_push_of_some _ (Heap.get?_push_of_some _ hb)
 have hget:((h.push {cls:=.type "tuple",data:=.seq Y1.toArray}).push {cls:=.ref C,data:=.fields #[.ref h.objs.size, .none, .none, .none, .bool false, .none]}).get? (h.objs.size+1)=some {cls:=.ref C,data:=.fields #[.ref h.objs.size, .none, .none, .none, .bool false, .none]}:=by heap_get
 have hC₁:=kp _ _ hC
 have X2:=X.keeps kp
 have hcC:(Value.ref C::bm).contains (.ref C)=true:=by simp
 have L1:=looks_findIn (M:=model prog w) X2 hi
 have L2:=looks_typeIn (M:=model prog w) X2 (beq_iff_eq.mp hf)
 unfold isInstance
 repeat (first |with_reducible refine wpAny_loadPart_at hget ?_ | (with_reducible refine wpAny_isSubtype_exc hC₁ ?_;rw[hcC]) |wp_step)
 show wpAny _ _ (typeLookup (.ref C) _) _ _ _
 refine L1.at ?_
 refine wpAny_holding (wpAny_bind ?_)
 unfold bindSpecial
 refine wpAny_bind (L2.at ?_)
 rw[if_pos (by decide)]
 refine wpAny_pure (wpAny_bind (wpAny_mono (hq _ (h.objs.size+1) ⟨kp,Heap.get?_none_of_le (Nat.le_succ _),h.objs.size,hget,Heap.get?_none_of_le (Nat.le_refl _),?_⟩) (λr s' hr=>?_) λ_ _ x=>x))
 ·exact Heap.get?_push_of_some _ (Heap.get?_push_at rfl rfl)
 ·obtain⟨rfl,hQ⟩:=hr
  wp_walk
  exact hQ
theorem Lc {K:Frag}{Y1:List Value}{fI:Addr}{Q:Value->Shared->Prop}(X:K.In h)(T:OwnTail h vEr bm)
  (hC:h.get? C=some (excClassObj nm q C N bs bm hdct sn sub ab col dd k0 k1 k2 k3 k5 "ValueError.__new__"))(hi:findIn K (.ref C) "__init__" =some (some (.ref fI)))(hf:isFn K (.ref fI)=true)
  (hq:∀h' e,Heap.MadeExcOf h h' e (.ref C) Y1->
   wpAny (model prog w) (A.under (.builtin "type.__call__" ⟨.ref C::Y1,[]⟩)) (call (.ref fI) (.ref e::Y1)) (λr s'=>r= .none/\Q (.ref e) s') E ⟨h',g,d,t,os⟩)(hrest:Y1.length<=sizeLine):
  wpAny (model prog w) A (call (.ref C) Y1) Q E ⟨h,g,d,t,os⟩:=by
 have f1:=tc_lookup
 have f2:=tc_bind (.ref C)
 have hT:(⟨h,g,d,t,os⟩:Shared).TypeIs (.ref C) "type":=⟨_,hC,rfl⟩
 refine wpAny_call (codeAny_of_tree ?_)
 show wpAny _ _ (callAny (.ref C) _) _ _ _
 repeat (any_goals (first |assumption |with_reducible refine wpAny_loadPart_at hC ?_ |wp_step))
 refine⟨rfl,?_⟩
 refine codeAny_call_builtin_at (Code.quiet_builtin _ (by decide+kernel)) entry_typeCall (wpAny_check_type_call_sub hC (IH X T hC hi hf (λh' e hm=>?_) hrest))
 exact hq h' e hm
end
noncomputable def EX (e C:Addr)(od:Option Addr)(vals:Array Value)(sl:Array (Option Value)):Heap->Prop:=λh=>h.get? e=some ⟨.ref C,od, .fields vals,sl⟩
theorem Hh {P:Program}{w:World}{H:Hp}{h:Heap}{e C:Addr}{od:Option Addr}{vals:Array Value}{sl:Array (Option Value)}(q:h.get? e=some ⟨.ref C,od, .fields vals,sl⟩):YB P w H h e (.ext (EX e C od vals sl)):=
 ⟨q,⟨_,q⟩,λ_ _ p k=>k _ p⟩
noncomputable def rem (H:Hp)(e:Addr):Hp:=λb=>if b=e then none else H b
section
variable {P:Program}{w:World}{fs ex:List Addr}{H:Hp}{h h':Heap}{a e dx:Addr}{o o1 o2:HO}{φ:Heap->Prop}
theorem Un.put (k:∀b u,h.get? b=some u->h'.get? b=some u)(hn:h.get? a=none)(hH:H a=none):Un fs ex H (upd H a o) h h' where
 keep:=λb o e _ _ _=>k b o e
 slot:=λb o e _ _ _=>⟨o.slots,k b o e⟩
 free:=λb o e n _=>by rw[Xv (λz=>by rw[z,hn] at e;cases e)];exact n
 there:=λb o e _=>⟨o,k b o e⟩
 tups:=λb xs q=>by rw[Xv (XF q hH)];exact q
 frzs:=λb o xs q=>by rw[Xv (XF q hH)];exact q
 tbls:=λb ps q=>⟨#[],by rw[Xv (XF q hH)];simpa using q⟩
theorem HOk.put (x:HOk P w H h)(k:∀b u,h.get? b=some u->h'.get? b=some u)(hn:H a=none)(new:YB P w (upd H a o) h' a o):HOk P w (upd H a o) h':=λb u e=>by
 by_cases hb:b=a
 ·subst hb;rw[XL] at e;cases e;exact new
 ·rw[Xv hb] at e
  exact(x b u e).stay (λc v _ q=>k c v q) (λc q=>by rw[Xv (XF q hn)];exact q) λc xs q=>by rw[Xv (XF q hn)];exact q
theorem Un.store (he:H e=some (.ext φ))(k:∀b u,b≠e->h.get? b=some u->h'.get? b=some u)(heo:∃u,h'.get? e=some u)(hn:h.get? dx=none)(hH:H dx=none):Un fs ex H (upd (upd H dx o1) e o2) h h':=by
 have ne:∀b u,H b=some u->(∀φ,u≠ .ext φ)->b≠e:=λb u q n z=>by rw[z,he] at q;cases q;exact n _ rfl
 have n0:∀b,H b=none->b≠e:=λb q z=>by rw[z,he] at q;cases q
 have two:∀b u,H b=some u->(∀φ,u≠ .ext φ)->upd (upd H dx o1) e o2 b=some u:=λb u q n=>by rw[Xv (ne b u q n),Xv (XF q hH)];exact q
 exact{
  keep:=λb o e n _ _=>k b o (n0 b n) e
  slot:=λb o e n _ _=>⟨o.slots,k b o (n0 b n) e⟩
  free:=λb o e n _=>by rw[Xv (n0 b n),Xv (λz=>by rw[z,hn] at e;cases e)];exact n
  there:=λb o q _=>by
   by_cases z:b=e
   ·rw[z];exact heo
   ·exact⟨o,k b o z q⟩
  tups:=λb xs q=>two b _ q λ_ z=>nomatch z
  frzs:=λb o xs q=>two b _ q λ_ z=>nomatch z
  tbls:=λb ps q=>⟨#[],by rw[two b _ q λ_ z=>nomatch z];simp⟩}
theorem HOk.store (x:HOk P w H h)(he:H e=some (.ext φ))(k:∀b u,b≠e->h.get? b=some u->h'.get? b=some u)(hH:H dx=none)(n1:YB P w (upd (upd H dx o1) e o2) h' dx o1)(n2:YB P w (upd (upd H dx o1) e o2) h' e o2):HOk P w (upd (upd H dx o1) e o2) h':=λb u q=>by
 have ne:∀b u,H b=some u->(∀φ,u≠ .ext φ)->b≠e:=λb u q n z=>by rw[z,he] at q;cases q;exact n _ rfl
 by_cases hb:b=e
 ·subst hb;rw[XL] at q;cases q;exact n2
 ·rw[Xv hb] at q
  by_cases hd:b=dx
  ·subst hd;rw[XL] at q;cases q;exact n1
  ·rw[Xv hd] at q
   refine(x b u q).stay (λc v hc z=>k c v ?_ z) (λc z=>by rw[Xv (ne c _ z λ_ y=>nomatch y),Xv (XF z hH)];exact z) λc xs z=>by rw[Xv (ne c _ z λ_ y=>nomatch y),Xv (XF z hH)];exact z
   rcases hc with z |z
   ·rw[z];exact hb
   ·exact ne c _ z λ_ y=>nomatch y
theorem Un.drop (he:H e=some (.ext φ)):Un fs ex H (rem H e) h h:=by
 have two:∀b u,H b=some u->(∀φ,u≠ .ext φ)->rem H e b=some u:=λb u q n=>by
  unfold rem
  rw[if_neg (λz=>by rw[z,he] at q;cases q;exact n _ rfl)];exact q
 exact{
  keep:=λb o e _ _ _=>e
  slot:=λb o e _ _ _=>⟨o.slots,e⟩
  free:=λb o _ n _=>by unfold rem;split<;> first |rfl |exact n
  there:=λb o e _=>⟨o,e⟩
  tups:=λb xs q=>two b _ q λ_ z=>nomatch z
  frzs:=λb o xs q=>two b _ q λ_ z=>nomatch z
  tbls:=λb ps q=>⟨#[],by rw[two b _ q λ_ z=>nomatch z];simp⟩}
theorem HOk.drop (x:HOk P w H h)(he:H e=some (.ext φ)):HOk P w (rem H e) h:=λb u q=>by
 unfold rem at q
 split at q
 ·cases q
 ·have two:∀b u,H b=some u->(∀φ,u≠ .ext φ)->rem H e b=some u:=λb u q n=>by
   unfold rem
   rw[if_neg (λz=>by rw[z,he] at q;cases q;exact n _ rfl)];exact q
  exact(x b u q).stay (λc v _ z=>z) (λc z=>two c _ z λ_ y=>nomatch y) λc xs z=>two c _ z λ_ y=>nomatch y
end
structure ExI (K:Frag)(C P fI:Addr)(f:Str):Prop where
 cls:∃nm q N bs sn sub ab col dd k0 k1 k2 k3 k5,K.lookup C=some (excClassObj nm q C N bs (.ref P::vEr) true sn sub ab col dd k0 k1 k2 k3 k5 "ValueError.__new__")
 par:excIn K P vEr "ValueError.__new__" =true
 sa:findIn K (.ref C) "__setattr__" =some (some (.builtin "object.__setattr__"))
 no:findIn K (.ref C) f=some none
 ini:findIn K (.ref C) "__init__" =some (some (.ref fI))
 fn:isFn K (.ref fI)=true
theorem ExI.cd {K:Frag}{C P fI:Addr}{f:Str}(Y:ExI K C P fI f):∃cd,clsIn K C=some cd/\cd.mro= .ref C:: .ref P::vEr/\cd.hasDict=true:=by
 obtain⟨nm,q,N,bs,sn,sub,ab,col,dd,k0,k1,k2,k3,k5,h⟩:=Y.cls
 unfold clsIn
 rw[h]
 exact⟨_,rfl,rfl,rfl⟩
theorem ExI.tail {K:Frag}{C P fI:Addr}{f:Str}{h:Heap}(Y:ExI K C P fI f)(X:K.In h):OwnTail h vEr (.ref P::vEr):=by
 obtain⟨bm,N,nm,q,bs,hdct,sn,sub,ab,col,dd,k0,k1,k2,k3,k5,mN,hC,hN,hni,T⟩:=EN X Y.par
 exact .own hC hN hni .base
noncomputable def Iu (C:Addr)(f:Str)(ta tv:TE):TS:=λD σ H=>tv σ H λy H1=>ta σ H1 λx H2=>∃ e vals sl,x= .ref e/\H2 e=some (.ext (EX e C none vals sl))/\∀dx,H2 dx=none->D.nx σ (upd (upd H2 dx (.xd [(f,y)])) e (.ext (EX e C (some dx) vals sl)))
theorem E7 {X:Cx}{o value:Expr}{ta tv:TE}{f:Str}{pos pos':Pos}{C P fI:Addr}(Y:ExI X.K C P fI f)(ha:PE X o ta)(hv:PE X value tv)(hs:swapsWith value (some (.Attribute o f pos')) pos.line X.env=pure false):PS X (.Assign [.Attribute o f pos'] value pos) (Iu C f ta tv):=by
 intro pins s σ H D I h
 refine plainObj_wpAny_Assign_Attribute (thn (hv pins s σ H _ I h) λu s1 ⟨y,H1,I1,ry,q⟩=>thn (ha pins s1 σ H1 _ I1 q) λov s2 r9=>?_) hs
 obtain⟨x,H2,I2,rx,e,vals,sl,ex,he,q2⟩:=r9
 subst ex
 obtain rfl:ov=Value.ref e:=rx
 obtain⟨cd,hc,hm,hd⟩:=Y.cd
 have hx:s2.heap.get? e=some ⟨.ref C,none, .fields vals,sl⟩:=(show YB _ _ _ _ _ _ from I2.hok e _ he).1
 refine IF I2.kIn hx hc hm hd Y.sa Y.no λh' dx tk hn hx' hns hk=>⟨σ,_,I2.un (Un.store he hk ⟨_,hx'⟩ hn (I2.hok.un0 hn)) (I2.hok.store he hk (I2.hok.un0 hn) ?_ (Hh hx')),q2 dx (I2.hok.un0 hn)⟩
 refine⟨_,hns,λg=>?_⟩
 by_cases z:g=f
 ·rw[if_pos z,z]
  show KC (List.lookup f [(f,y)]) _
  rw[List.lookup_cons,beq_self_eq_true];exact ry
 ·rw[if_neg z]
  show KC (List.lookup g [(f,y)]) _
  rw[List.lookup_cons,beq_eq_false_iff_ne.mpr z];exact True.intro
noncomputable def spI (C:Addr)(f:Str):Sp:=λvs H Q _=>∃ e v vals sl,vs=[.ref e,v]/\H e=some (.ext (EX e C none vals sl))/\∀dx,H dx=none->Q .non (upd (upd H dx (.xd [(f,v)])) e (.ext (EX e C (some dx) vals sl)))
noncomputable def Dt (C:Addr)(f:Str)(E:XK)(t:TA):TS:=λ_ σ H=>t σ H λvs H1=>∃ v,vs=[v]/\∀dx,H1 dx=none->E (.ref C) (some dx) (upd H1 dx (.xd [(f,v)]))
section
variable {M:Model}{A:Around}{E:Value->Shared->Prop}{env:Env}
variable {nm q:Str}{C N:Addr}{bs bm:List Value}{hdct:Bool}{sn:List Str}{sub:List Value}{ab:Bool}{col:Option Bool}{dd:Option Addr}{k0 k1 k2 k3 k5:Option Value}{newId:String}
theorem GO {s:Shared}{x:Sem Value}{Q:Flow->Shared->Prop}(hbase:bm.contains (.type "BaseException")=true)(hh:A.handled=none)
  (h:wpAny M A x (λv s₁=>∃ e t od sl,v= .ref e/\s₁.heap.get? C=some (excClassObj nm q C N bs bm hdct sn sub ab col dd k0 k1 k2 k3 k5 newId)/\
   s₁.heap.get? e=some ⟨.ref C,od, .fields #[.ref t, .none, .none, .none, .bool false, .none],sl⟩/\E (.ref e) s₁) E s):wpAny M A (raiseStmt env (some x) none) Q E s:=by
 have hcB:(Value.ref C::bm).contains (.type "BaseException")=true:=by rw[List.contains_cons,hbase,Bool.or_true]
 unfold raiseStmt
 refine wpAny_bind (wpAny_mono h (λv s₁ h₁=>?_) λ_ _ x=>x)
 obtain⟨e,t,od,sl,rfl,hC,he,hE⟩:=h₁
 obtain⟨hp,g,d,tk,os⟩:=s₁
 repeat (first |with_reducible refine wpAny_loadPart_at he ?_ |with_reducible refine wpAny_loadPart_at hC ?_ | (with_reducible refine wpAny_isSubtype_exc hC ?_;rw[hcB]) |wp_step)
 exact wpAny_raiseNew_none hh hE
end
section
variable {X:Cx}{E:XK}{C P fI:Addr}{f x a b:Str}{e:Expr}{t:TA}{np cpos pos:Pos}{fd:FuncData}{k:Nat}
theorem FZ (hR:Dy X E)(hc:X.calm=true)(hex:X.ex=[])(Y:ExI X.K C P fI f)(F:FnOk X.prog X.w X.K X.mg X.base (CXD X.prog X.w) 1 fI fd [a,b] (spI C f))(hb:Vt X.K fd [a,b] [])(hr:Room k X.A)(hk:2<=k)(hp:VV (CXD X.prog X.w) X E0)(hg:Gl X x)(hm:X.mg x=some (.ref C))(ha:PA X [e] t)(hdb:(x==("__debug__":Str))=false:=by decide)
  (he:starEach [e] X.env=(false,eval e X.env)::starEach [] X.env:=by rfl)(hpl:(backTo cpos (starEach [] X.env)).any (·.1)=false:=by rfl):
  PS X (.Raise (some (.Call (.Name x np) [e] [] cpos)) none pos) (Dt C f E t):=by
 intro pins s σ H D I h
 obtain⟨nm,q,N,bs,sn,sub,ab,col,dd,k0,k1,k2,k3,k5,hK⟩:=Y.cls
 rw[arm_exec_Raise]
 have hpl2:(backTo cpos (starEach [e] X.env)).any (·.1)=false:=by rw[he];show(false || (backTo cpos (starEach [] X.env)).any (·.1))=false;rw[hpl];rfl
 have T0:=Y.tail I.kIn
 refine wpAny_bind (wpAny_standAt (GO (C:=C) (bm:=.ref P::vEr) (nm:=nm) (q:=q) (N:=N) (bs:=bs) (hdct:=true) (sn:=sn) (sub:=sub) (ab:=ab) (col:=col) (dd:=dd) (k0:=k0) (k1:=k1) (k2:=k2) (k3:=k3) (k5:=k5) (newId:="ValueError.__new__") (T0.hasType rfl) (I.ok.hd hc) (wpAny_bind (wpAny_mono (wpAny_Call_ofName (JZ I hg hm ?_ hdb)) (λv s₃ h₃=>wpAny_bind (wpAny_standAt (wpAny_pure h₃))) λ_ _ x=>x))))
 have h2:=ha cpos pins s σ H _ I h
 have h3:wpAny (model X.prog X.w) X.A (evalArgs (.ref C) true (backTo cpos (starEach [e] X.env)) []) (λa s₂=>∃ us v H1,a=⟨us,[]⟩/\Inv X pins σ H1 s₂/\Yg [v] us/\∀dx,H1 dx=none->E (.ref C) (some dx) (upd H1 dx (.xd [(f,v)]))) X.xe s:=by
  rw[he] at h2⊢
  refine Calls.evalArgs_plain (wpAny_mono h2 (λus s2 r9=>?_) λ_ _ y=>y)
  obtain⟨vs,H1,I1,r,v,hv,hq⟩:=r9
  subst hv
  exact⟨us,v,H1,rfl,I1,r,hq⟩
 unfold callWith
 refine wpAny_bind (wpAny_holding (wpAny_mono h3 (λa s₂ h₂=>wpAny_bind (wpAny_standAt ?_)) λ_ _ x=>x))
 obtain⟨us,v,H1,rfl,I1,r,hE⟩:=h₂
 obtain⟨hh,g,d,tk,os⟩:=s₂
 simp only[hpl2]
 have hC:=I1.kIn C _ hK
 refine wpAny_bind (wpAny_keeperOf_exc hC ?_)
 refine wpAny_bind (Lc I1.kIn (Y.tail I1.kIn) hC Y.ini Y.fn (λh' ea hm=>?_) ?_)
 ·obtain⟨ta,hea,hta,htt⟩:=hm.there
  have fe:=I1.hok.un0 hm.new
  have I2:Inv X pins σ (upd H1 ea (.ext (EX ea C none #[.ref ta, .none, .none, .none, .bool false, .none] #[]))) ⟨h',g,d,tk,os⟩:=I1.un (t':=tk) (Un.put hm.keeps hm.new fe) (I1.hok.put hm.keeps fe (Hh hea))
  have r2:Yg [V.ref ea,v] (Value.ref ea::us):=.cons rfl r
  refine wpAny_call (codeAny_mono (F.run _ X.stack _ _ ⟨Value.ref ea::us,[]⟩ (Value.ref ea::us) [V.ref ea,v]
   (λv2 H2=>v2= .non/\∃dx,H1 dx=none/\dx≠ea/\H2=upd (upd (upd H1 ea (.ext (EX ea C none #[.ref ta, .none, .none, .none, .bool false, .none] #[]))) dx (.xd [(f,v)])) ea (.ext (EX ea C (some dx) #[.ref ta, .none, .none, .none, .bool false, .none] #[])))
   E0 ((hr.mono hk).make C us []) (I2.env0.make C us []) ?_ r2 ⟨ea,v,_,_,rfl,XL,λdx hdx=>⟨rfl,dx,?_,?_,rfl⟩⟩) λrr s' hq'=>?_)
  ·have z:=hb ⟨h',g,d,tk,os⟩ (Value.ref ea::us) I2.kIn (by rw[List.append_nil, ←r2.length];rfl)
   rwa [List.append_nil] at z
  ·by_cases z:dx=ea
   ·rw[z];exact fe
   ·rw[Xv z] at hdx;exact hdx
  ·intro z
   rw[z,XL] at hdx;cases hdx
  ·cases rr with
   |error e=>exact(hp pins σ _ _ e s' I2 hq')
   |ok fl=>
    cases fl with
    |next=>exact False.elim hq'
    |brk=>exact False.elim hq'
    |cont=>exact False.elim hq'
    |ret u=>
     obtain⟨v2,H2,I3,rv,ev,dx,hdx,ned,rfl⟩:=I2.after hq'
     subst ev
     refine⟨rv,wpAny_bind (wpAny_holding (wpAny_point (wpAny_pure ?_)))⟩
     have hx:s'.heap.get? ea=some ⟨.ref C,some dx, .fields #[.ref ta, .none, .none, .none, .bool false, .none], #[]⟩:=(show YB _ _ _ _ _ _ from I3.hok ea _ XL).1
     have I4:Inv X pins σ _ s':=I3.un (t':=s'.toks) (Un.drop XL) (I3.hok.drop XL)
     have eH:rem (upd (upd (upd H1 ea (.ext (EX ea C none #[.ref ta, .none, .none, .none, .bool false, .none] #[]))) dx (.xd [(f,v)])) ea (.ext (EX ea C (some dx) #[.ref ta, .none, .none, .none, .bool false, .none] #[]))) ea=upd H1 dx (.xd [(f,v)]):=by
      funext b
      unfold rem
      by_cases z:b=ea
      ·rw[if_pos z,z,Xv ned.symm];exact fe.symm
      ·rw[if_neg z,Xv z]
       by_cases y:b=dx
       ·rw[y,XL,XL]
       ·rw[Xv y,Xv y,Xv z]
     rw[eH] at I4
     have hs0:X.s₀.heap.get? ea=none:=by
      cases q:X.s₀.heap.get? ea with
      |none=>rfl
      |some o=>obtain⟨o',z⟩:=I1.base.there ea o q (by rw[hex];exact λy=>nomatch y);rw[hm.new] at z;cases z
     exact⟨ea,ta,some dx, #[],rfl,I3.kIn C _ hK,hx,hR pins σ _ s' C ea _ _ I4 hs0 (by rw[Xv ned.symm];exact fe) hx rfl rfl rfl (hE dx hdx)⟩
 ·rw[List.nil_append, ←r.length];exact(show 1<=sizeLine by decide)
end
section
variable {X:Cx}{body suite:List Stmt}{b₀:Stmt}{cn n:Str}{Ch:Addr}{i:Nat}{tb:XK->TS}{ts:Addr->Addr->Option Addr->TS}{np hpos pos:Pos}
end
noncomputable def Hq (K:Frag)(C:Addr)(od:Option Addr)(ta:TE)(a:Addr)(f:Str):TE:=λσ H Q=>ta σ H λx H1=>∃ dx v,x= .ref a/\od=some dx/\erA K C=true/\hasDictIn K C=true/\findIn K (.ref C) f=some none/\H1 dx=some (.xd [(f,v)])/\Q v H1
theorem Eg {X:Cx}{a C:Addr}{od:Option Addr}{o:Obj}{vs:Array Value}{f:Str}{e:Expr}{ta:TE}{pos:Pos}{pn:List (Addr×Obj)}(hpn:X.pn=pn)(hp:(a,o)∈pn)(hc:o.cls= .ref C)(ho:o.dict=od)(hd:o.data= .fields vs)(ha:PE X e ta)(hb:attributeBase e f X.env (eval e X.env)=eval e X.env){K:Frag}(hK:X.K=K):PE X (.Attribute e f pos) (Hq K C od ta a f):=by
 subst hpn hK ho
 intro pins s σ H Q I h
 refine ED hb (thn (ha pins s σ H _ I h) λov s1 r9=>?_)
 obtain⟨x,H1,I1,rx,dx,v,ex,hod,hA,hdi,hn,hx,q⟩:=r9
 subst ex
 obtain rfl:ov=Value.ref a:=rx
 obtain⟨e1,_⟩:=I1.pin (a,o) (List.mem_append_left _ hp)
 obtain⟨oc,odd,oda,osl⟩:=o
 dsimp only at hc hd hod e1
 subst hc hd hod
 obtain⟨mA,hns,hr⟩:=(show YB X.prog X.w H1 s1.heap dx (.xd [(f,v)]) from I1.hok dx _ hx)
 have hf:=hr f
 rw[List.lookup_cons,beq_self_eq_true] at hf
 obtain⟨u,hu,ru⟩:∃u,mA f=some u/\X8 v u:=by
  cases z:mA f with
  |none=>rw[z] at hf;exact hf.elim
  |some u=>rw[z] at hf;exact⟨u,rfl,hf⟩
 unfold erA at hA
 simp only[Bool.and_eq_true,beq_iff_eq] at hA
 obtain⟨⟨⟨⟨⟨⟨⟨ga,gh⟩,cl⟩,sg⟩,tk⟩,mo⟩,ci⟩,mb⟩:=hA
 refine getD I1.kIn e1 hns hu ?_ ga gh mb hdi hn ⟨v,H1,I1.tok _,ru,q⟩
 cases v<;> first | (obtain⟨t,rfl⟩:=(show ∃t,_ from ru);rfl) | (have z:=ru;unfold X8 at z;rw[z];rfl)
end L2
namespace L2
open PySem PySem.Spec PyProof.Rows PySem.W
section
variable {X:Cx}{pins:List (Addr×Obj)}{σ:St}{H:Hp}{s:Shared}{h':Heap}
theorem Inv.gone {m:Str->Option Value}{t' i:Nat}{n:Str}{v':Option Value}(I:Inv X pins σ H s)(hN:X.N.Nodup)(hi:X.N[i]?=some n)
  (hl:∀(i:Nat) (x:Str) (v:V),X.N[i]?=some x->σ[i]?=some (some v)->Vis X.env.scope x->∃u,X8 v u/\LQ X.env s.heap m x u)
  (hn:h'.Ns X.env.locals (λx=>if x=n then v' else m x))(sb:Heap.SameBut X.env.locals s.heap h'):Inv X pins (σ.set i none) H {s with heap:=h',toks:=t'}:=by
 have v:Un [] [X.env.locals] H H s.heap h':=⟨λb o e n _ hx=>(sb.2 b λz=>hx (by simp[z])).trans e,(λb o e n hb _=>nomatch hb),λb o e n _=>n,λb o e hx=>⟨o,(sb.2 b λz=>hx (by simp[z])).trans e⟩,λ_ _ q=>q,λ_ _ _ q=>q,λ_ ps q=>⟨#[],by simpa using q⟩⟩
 refine⟨I.ok,I.os,I.bare,I.base.past v (λb hb=>?_) (λb hb=>nomatch hb),⟨_,hn,λj x w e1 e2 e3=>?_⟩,λx c e=>?_,I.free,I.freeC,λp hp=>?_,λb o e=>?_,by rw[List.length_set];exact I.len⟩
 ·rw[List.mem_singleton.mp hb];exact Heap.get?_none_of_le I.ok.above
 ·by_cases hj:i=j
  ·subst hj
   rw[List.getElem?_set] at e2
   rw[if_pos rfl] at e2
   split at e2<;> cases e2
  ·rw[List.getElem?_set_ne hj] at e2
   have hx:x≠n:=λz=>by
    subst z
    obtain⟨p1,q1⟩:=List.getElem?_eq_some_iff.mp hi
    exact hj ((List.getElem?_inj p1 hN).mp (hi.trans e1.symm))
   obtain⟨u,r,q⟩:=hl j x w e1 e2 e3
   refine⟨u,r,?_⟩
   rcases q with⟨k,q⟩ | ⟨k,c,e,o,z1,z2⟩
   ·exact .inl ⟨k,by show(if x=n then v' else m x)=some u;rw[if_neg hx];exact q⟩
   ·exact .inr ⟨k,c,e,o,(sb.2 c (I.cne x c e)).trans z1,z2⟩
 ·obtain⟨v,o,e1,e2⟩:=I.cell x c e
  exact⟨v,o,(sb.2 c (I.cne x c e)).trans e1,e2⟩
 ·obtain⟨e,n,ne,nf,d⟩:=I.pin p hp
  exact⟨(sb.2 p.1 ne).trans e,n,ne,nf,d⟩
 ·refine(I.hok b o e).stay (λc u hc q=>(sb.2 c λz=>?_).trans q) (λ_ q=>q) λ_ _ q=>q
  have hf:=I.free
  rw[←z] at hf
  rcases hc with y |y
  ·rw[y,e] at hf;cases hf
  ·rw[y] at hf;cases hf
end
noncomputable def Il (sp:Sp)(K:Frag)(cc:Value)(i:Nat)(t:TA)(ts:Addr->Addr->Option Addr->TS):TS:=λD σ H=>
 t σ H λvs H1=>sp vs H1 (λ_ H2=>D.nx σ H2) (λc od H'=>exmOne K c cc=some true/\∀a C,c= .ref C->H' a=none->ts a C od {nx:=λσ'=>D.nx (σ'.set i none),rt:=D.rt,bk:=λσ'=>D.bk (σ'.set i none),ct:=λσ'=>D.ct (σ'.set i none)} (σ.set i (some (.ref a))) H')
section
variable {X:Cx}{suite:List Stmt}{b₀:Stmt}{cn n fx:Str}{Ch:Addr}{i k j:Nat}{ts:Addr->Addr->Option Addr->TS}{np hpos pos p cpos epos:Pos}{ps:List Str}{sp:Sp}{e:Expr}{es:List Expr}{t:TA}
theorem BV (hxe:∀e s,¬X.xe e s)(G:FnD X.prog X.w X.K X.mg X.base k fx ps sp)(hr:Room j X.A)(hj:k<=j)(ha:PA X (e::es) t)(hst:X.stack=X.env::X.outer)(hex:X.ex=[])(hfr:X.env.frame=some X.env.locals)(hg:Gl X cn)(hm:X.mg cn=some (.ref Ch))(hN:X.N.Nodup)(hi:X.N[i]?=some n)(hlo:X.env.kindOf n=some .local)(hlo2:X.env.scope.names.lookup n=some .local)
  (hs:∀pn a o C vs od,(a,o)∈pn->o.cls= .ref C->o.dict=od->o.data= .fields vs->PSs (X.held a pn) (b₀::suite) (ts a C od))
  (hgf:Gl X fx:=by rfl)(hdf:(fx==("__debug__":Str))=false:=by decide)(hsw:swapsWith (.Call (.Name fx p) (e::es) [] cpos) none epos.line X.env=pure false:=by rfl)
  (he:starEach (e::es) X.env=(false,eval e X.env)::starEach es X.env:=by rfl)(hpl:(backTo cpos (starEach es X.env)).any (·.1)=false:=by rfl)(hdb:(cn==("__debug__":Str))=false:=by decide):
  PS X (.Try [.Expr (.Call (.Name fx p) (e::es) [] cpos) epos] [.ExceptHandler (some (.Name cn np)) (some n) (b₀::suite) hpos] [] [] pos) (Il sp X.K (.ref Ch) i t ts):=by
 intro pins s σ H D I h
 obtain⟨f,fd,F,b,kp,mf⟩:=G.ex
 refine wpAny_Try_except (wpAny_execs_cons (wpAny_Expr_any ?_ I.quiet hsw))
 refine wpAny_Call_Name_kw (JZ I hgf mf ?_ hdf)
 refine PySem.W.callWith_K (h₀:=X.base) I.ok.mod.kin kp (wpAny_mono (ha cpos pins s σ H _ I h) (λus s1 ⟨vs,H1,I1,r,q⟩=>⟨I1.kIn,?_⟩) λe s z=>(hxe e s z).elim) he hpl
 have hl:(us++[]).length=ps.length:=by rw[List.append_nil, ←r.length];exact F.len _ _ _ _ q
 have bb:=b s1 us I1.kIn hl
 rw[List.append_nil] at bb
 refine wpAny_call (codeAny_mono (F.run X.A X.stack s1 H1 ⟨us,[]⟩ us vs _ _ (hr.mono hj) I1.env0 bb r q) λrr s' hq=>?_)
 cases rr with
 |ok fl=>
  cases fl with
  |ret u=>
   obtain⟨v,H2,I2,_,q2⟩:=I1.after hq
   exact wpAny_execs_nil (wpAny_execs_nil ⟨σ,H2,I2,q2⟩)
  |next=>exact False.elim hq
  |brk=>exact False.elim hq
  |cont=>exact False.elim hq
 |error e=>
  obtain⟨a,T,C,od,H',he,x,os,bare,un,hok,hexm,hts⟩:=hq
  subst he
  have J:Inv X pins σ H' s':=I1.call' os un hok bare (λb z=>nomatch z)
  have q1:∀b,s1.heap.get? b=none->X.s₀.heap.get? b=none/\b≠X.env.locals/\(∀y c,X.env.cells.lookup y=some c->c≠b)/\∀p∈X.pn++pins,p.1≠b:=λb nb=>by
   refine⟨?_,λz=>?_,λy c hy z=>?_,λp hp z=>?_⟩
   ·cases q:X.s₀.heap.get? b with
    |none=>rfl
    |some o=>obtain⟨o',e⟩:=I1.base.there b o q (by rw[hex];simp);rw[nb] at e;cases e
   ·obtain⟨m,⟨o,es,ep,ho,_⟩,_⟩:=I1.loc
    rw[←z,nb] at ho;cases ho
   ·obtain⟨v,o,ho,_⟩:=I1.cell y c hy
    rw[z,nb] at ho;cases ho
   ·obtain⟨e,_⟩:=I1.pin p hp
    rw[z,nb] at e;cases e
  have hl:s'.heap.FunFrames X.base (X.env::X.outer):=hst▸J.stack
  have hfn:∀b∈frs (X.env::X.outer),H' b=none:=hst▸J.stkFree
  have hA:X.A.frames=some (X.env::X.outer):=hst▸I.ok.frames
  refine IV hA hfr (x.fly hl) λh2 hd2 up2=>?_
  refine Es hd2 λh3 fl3 up3=>?_
  obtain⟨T3,x3,hok3,un3⟩:=x.after hl hfn hok (λb o e=>un.there b o e (λz=>nomatch z)) fl3 (up2.trans up3)
  have ch:∀{U:Addr},s1.heap.get? U=none->∀b∈[a,U],X.s₀.heap.get? b=none/\b≠X.env.locals/\(∀y c,X.env.cells.lookup y=some c->c≠b)/\∀p∈X.pn++pins,p.1≠b:=fun {U} nU b hb=>by
   rcases List.mem_cons.mp hb with z |z
   ·rw[z];exact q1 a x.na
   ·rw[List.mem_singleton.mp z];exact q1 U nU
  have J3:Inv X pins σ H' {s' with heap:=h3}:=J.past (by rw[hst];exact un3) hok3 (ch x.nT)
  have hh:∀{pn:List (Addr×Obj)}{s4:Shared},Inv X pins σ H' s4->(∀p∈pn,p∈X.pn++pins∨(p.1=a/\s4.heap.get? a=some p.2/\∀v,p.2.data≠ .cell v))->Inv (X.held a pn) [] σ H' s4:=fun {pn s4} J4 hp4=>by
   refine⟨I.ok.held _ _,J4.os,J4.bare,J4.base,J4.loc,J4.cell,J4.free,J4.freeC,λp hp=>?_,J4.hok,J4.len⟩
   rcases hp4 p (by simpa using hp) with z | ⟨z1,z2,z3⟩
   ·exact J4.pin p z
   ·refine⟨by rw[z1];exact z2,by rw[z1];exact x.fa,by rw[z1];exact(q1 a x.na).2.1,?_,z3⟩
    rw[z1]
    intro y
    obtain⟨_,o2,ho2,_⟩:=I.ok.funs.mem y
    rw[(q1 a x.na).1] at ho2
    cases ho2
  have hl3:h3.FunFrames X.base (X.env::X.outer):=hst▸J3.stack
  obtain⟨oe,vs,oT,tts,ha3,hc3,_⟩:=id x3.obj
  have J3h:=hh (pn:=X.pn++pins) J3 λp hp=>.inl hp
  refine wpAny_handleBy_cons (codeAny_handlers_test (JZ J3h hg hm ?_ hdb)) (by intro q;cases q)
  have LT:PySem.W.Looks (model X.prog X.w) h3 (typeOf (.ref a)) (.ref C):=hc3.1▸(PySem.W.Looks.ld ha3).andThen .now
  refine PySem.W.exm_one J3.kIn LT hexm _ _ _ _ (λ_ _ e=>e) ?_
  refine codeAny_handlers_suite_as ?_
  refine Es (x3.fly hl3) λh5 fl5 up5=>?_
  obtain⟨T5,x5,hok5,un5⟩:=x3.after hl3 hfn hok3 (λb o e=>by
   obtain⟨o',e'⟩:=un.there b o e (λz=>nomatch z)
   by_cases z:b∈[a,T]
   ·rcases List.mem_cons.mp z with z |z
    ·rw[z,x.na] at e;cases e
    ·rw[List.mem_singleton.mp z,x.nT] at e;cases e
   ·exact un3.there b o' e' z) fl5 up5
  have J5:Inv X pins σ H' {s' with heap:=h5}:=J3.past (by rw[hst];exact un5) hok5 (ch x3.nT)
  obtain⟨oe5,vs5,oT5,ts5,ha5,hc5,hd5,_⟩:=id x5.obj
  have J5h:=hh (pn:=(a,oe5)::(X.pn++pins)) J5 λp hp=>by
   rcases List.mem_cons.mp hp with z |z
   ·rw[z];exact .inr ⟨rfl,ha5,λv q=>by rw[hd5] at q;cases q⟩
   ·exact .inl z
  refine UA (X:=X.held a ((a,oe5)::(X.pn++pins))) (v:=.ref a) J5h hN hi (.inl hlo2) rfl (λs6 J6=>?_) (.inr hlo2)
  refine wpAny_mono (hs _ a oe5 C vs5 od List.mem_cons_self hc5.1 hc5.2 hd5 [] s6 _ H' _ J6 (hts a C rfl x.fa)) (λf s7 hq=>?_) λ_ _ z=>z.elim
  have fin:∀{σ7 H7}{Q:Unit->Shared->Prop},Inv (X.held a ((a,oe5)::(X.pn++pins))) [] σ7 H7 s7->(∀s8,Inv X pins (σ7.set i none) H7 s8->Q () s8)->wpAny (model X.prog X.w) X.A (do bindName X.env n .none;unbindBehindTheSuite X.env n hpos) Q X.xe s7:=fun {σ7 H7 Q} J7 q=>by
   obtain⟨m,hn,hnl⟩:=id J7.loc
   refine wpAny_nameGoes_keeps hlo hn (by rw[I.ok.kind];rfl) λh8 v8 hn8 sb8=>q _ ?_
   have J8:=J7.gone (t':=s7.toks+1) hN hi hnl hn8 sb8
   exact⟨I.ok,J8.os,J8.bare,J8.base,J8.loc,J8.cell,J8.free,J8.freeC,λp hp=>J8.pin p (by simpa using .inr (by simpa using hp)),J8.hok,J8.len⟩
  cases f with
  |next=>obtain⟨σ7,H7,J7,q⟩:=hq;exact fin J7 λs8 J8=>⟨_,H7,J8,q⟩
  |brk=>obtain⟨σ7,H7,J7,q⟩:=hq;exact fin J7 λs8 J8=>⟨_,H7,J8,q⟩
  |cont=>obtain⟨σ7,H7,J7,q⟩:=hq;exact fin J7 λs8 J8=>⟨_,H7,J8,q⟩
  |ret u=>obtain⟨v,σ7,H7,J7,r,q⟩:=hq;exact fin J7 λs8 J8=>⟨v,_,H7,J8,r,q⟩
end
end L2
namespace L2
open PySem PySem.Spec PyProof.Rows
noncomputable abbrev SI:=Str ⊕ Int
noncomputable abbrev rSI:Enc SI:=rEi Yu Xa
noncomputable def Hf (f:Str)(od:Option Addr):Enc Pay:=λK H _ p=>match p with
 | .non=>True
 | .int i=>∃ dx,od=some dx/\H dx=some (.xd [(f, .int i)])
 | .tag t xs=>∃ dx v,od=some dx/\H dx=some (.xd [(f,v)])/\rPL rSI K H v (.inl t::xs.map .inr)
instance {f:Str}{od:Option Addr}:MonoE (Hf f od):=⟨fun {K H H' v p} s h=>by
 cases p with
 |non=>exact True.intro
 |int i=>obtain⟨dx,e,q⟩:=h;exact⟨dx,e,s _ _ q⟩
 |tag t xs=>obtain⟨dx,v,e,q,r⟩:=h;exact⟨dx,v,e,s _ _ q,MonoE.mono s r⟩⟩
theorem W.vis {OO:List (List XA)}{H:Hp}{b:Addr}{o:HO}(w:W OO H)(h:H b=some o)(m:Ef o=false):hid H OO b=some o:=ZO h λz=>by
 obtain⟨u,hu⟩:=GP z
 have h1:=w.tr _ hu
 have h2:=w.mu _ hu
 rw[h] at h1
 cases h1
 rw[m] at h2;cases h2
theorem BT {K:PySem.W.Frag}{f:Str}{od:Option Addr}{H:Hp}{OO:List (List XA)}{v:V}{p:Pay}(w:W OO H)(h:Hf f od K H v p):Hf f od K (hid H OO) v p:=by
 cases p with
 |non=>exact True.intro
 |int i=>obtain⟨dx,e,q⟩:=h;exact⟨dx,e,w.vis q rfl⟩
 |tag t xs=>obtain⟨dx,v,e,q,r⟩:=h;exact⟨dx,v,e,w.vis q rfl,FlatE.flat w.i r⟩
noncomputable def fOf (n:Str):Str:=if n=("NoChain":Str) then "at" else "fault"
noncomputable def ErD (K:PySem.W.Frag)(mg:Str->Option Value)(E:XK):Exc->Hp->Prop:=λx H=>∀ C,mg x.cls=some (.ref C)->∀od,Hf (fOf x.cls) od K H .non x.pay->E (.ref C) od H
noncomputable def Jt:List SI->Option (List Int)
 | []=>some []
 | .inr n::r=>(Jt r).map (n:: ·)
 | .inl _::_=>none
noncomputable def Bi:List SI->Rs Pay
 | .inl t::r=>match Jt r with
  |some l=>.ok (.tag t l)
  |none=>.bad
 |_=>.bad
theorem VN:∀{r:List SI}{l:List Int},Jt r=some l->r=l.map .inr
 | [],l,h=>by cases h;rfl
 | .inr n::r,l,h=>by
  unfold Jt at h
  cases q:Jt r with
  |none=>rw[q] at h;cases h
  |some l'=>rw[q] at h;cases h;rw[VN q];rfl
 | .inl _::_,_,h=>nomatch h
theorem UL:∀(l:List Int),Jt (l.map .inr)=some l
 | []=>rfl
 |n::r=>by show(Jt (r.map .inr)).map _=_;rw[UL r];rfl
theorem EA {xs:List SI}{p:Pay}(h:Bi xs= .ok p):∃t l,p= .tag t l/\xs= .inl t::l.map .inr:=by
 unfold Bi at h
 split at h
 ·split at h
  ·rename_i q;cases h;exact⟨_,_,rfl,by rw[VN q]⟩
  ·cases h
 ·cases h
section
variable {K:PySem.W.Frag}{Er:Exc->Hp->Prop}{S:SC}{OO OO' OO2:List (List XA)}{σ:St}{α β γ ρ ι:Type}{α1 α2 α3:Type}{mg:Str->Option Value}{E:XK}{u:TS}
noncomputable def HG (mg:Str->Option Value)(r1:Enc α1)(o:OE ρ)(f:α1->Rs ρ)(K:PySem.W.Frag):Sp:=λvs H Q E=>∃ v1 a1,vs=[v1]/\r1 K H v1 a1/\PX (ErD K mg E) (FF K o Q) H (f a1)
variable {Fd:Ends->β->Hp->Prop}[fd:FdOk Fd]
theorem GE {te:TE}{m:Rs (List SI)}{C:Addr}{n f:Str}(hm:mg n=some (.ref C))(hf:fOf n=f)(h:EvB K (ErD K mg E) S OO σ te (rPL rSI) m):Sv (ErD K mg E) S OO σ (Qr (Dt C f E (XT te ZQ)) u) Fd (m.bind λxs=>(Bi xs).bind λp=>.err ⟨n,p⟩):=λH D w s P=>
 h H _ w s (by
  cases m with
  |bad=>exact P
  |err x=>exact λH' s'=>P H' (XB.trans s')
  |ok xs=>
   intro v H' s' r
   have P2:PZ (ErD K mg E) (Fd D) (hid H OO) ((Bi xs).bind λp=>.err ⟨n,p⟩):=P
   cases q:Bi xs with
   |bad=>rw[q] at P2;exact P2.elim
   |err x=>unfold Bi at q;split at q<;> (try split at q)<;> cases q
   |ok p=>
    rw[q] at P2
    obtain⟨t,l,rfl,rfl⟩:=EA q
    exact⟨_,rfl,λdx hdx=>P2 _ (XB.trans (s'.trans (X1 hdx _))) C hm (some dx) ⟨dx,v,rfl,by rw[XL,hf],MonoE.mono (X1 hdx _) r⟩⟩)
theorem EvB.stB {te:TE}{r:Enc α}{m:Rs α}(he:EvB K Er S OO σ te r m){H:Hp}{D:Ends}{Q:VK}(w:W OO H)(s:S.p (hid H OO)){f:α->Rs β}(P:PZ Er (Fd D) (hid H OO) (m.bind f))
  (hk:∀a v H',Xw H H'->W OO H'->S.p (hid H' OO)->r K H' v a->PZ Er (Fd D) (hid H' OO) (f a)->Q v H'):te σ H Q:=by
 refine he H Q w s ?_
 cases m with
 |bad=>exact P
 |err x=>exact λH' s'=>P H' (XB.trans s')
 |ok a=>exact λv H' s' r=>hk a v H' s' (w.keep s') (S.mono _ _ (Xn s') s) r (PZ.tr (fd.tr D) (Xn s') P)
inductive Fv where
 |non |int (i:Int) |tup (xs:List SI)
 deriving DecidableEq
noncomputable def rFv:Enc Fv:=λK H v x=>match x with
 | .non=>v= .non
 | .int i=>v= .int i
 | .tup xs=>rPL rSI K H v xs
instance:FlatE rFv:=⟨fun {K H H' v a} s h=>by
 cases a with
 |non=>exact h
 |int i=>exact h
 |tup xs=>exact FlatE.flat (r:=rPL rSI) s h⟩
noncomputable def fvP:Pay->Fv
 | .non=>.non
 | .int i=>.int i
 | .tag t xs=>.tup (.inl t::xs.map .inr)
theorem CA {a C:Addr}{od:Option Addr}{p:Pay}{n f:Str}(hf:fOf n=f)(i:Nat)(hσ:σ[i]?=some (some (.ref a)))(hA:erA K C=true)(hd:PySem.W.hasDictIn K C=true)(hn:PySem.W.findIn K (.ref C) f=some none)(h:∀x,S.p x->Hf (fOf n) od K x .non p):
  EvS K Er S OO σ (Hq K C od (QD i) a f) rFv (chk (p≠ .non) (.ok (fvP p))):=λH Q w s P=>by
 obtain⟨hp,P2⟩:=DM P
 subst hf
 have q:=h _ s
 cases p with
 |non=>exact absurd rfl hp
 |int j=>
  obtain⟨dx,e,q⟩:=q
  exact⟨_,hσ,dx,_,rfl,e,hA,hd,hn,(Yf q).1,P2 _ H (Xw.refl _) rfl⟩
 |tag t xs=>
  obtain⟨dx,v,e,q,r⟩:=q
  exact⟨_,hσ,dx,v,rfl,e,hA,hd,hn,(Yf q).1,P2 _ H (Xw.refl _) r⟩
theorem ZI {te:TE}{o:Enc α}{p:Enc γ}{m:Rs α}(he:EvS K Er S OO σ te o m):EvS K Er S OO σ te (rEi o p) (m.bind λa=>.ok (.inl a)):=λH Q w s P=>by
 refine he H Q w s ?_
 cases m with
 |bad=>exact P
 |err x=>exact P
 |ok a=>exact P
theorem Zk {te:TE}{o:Enc α}{p:Enc γ}{m:Rs γ}(he:EvS K Er S OO σ te p m):EvS K Er S OO σ te (rEi o p) (m.bind λa=>.ok (.inr a)):=λH Q w s P=>by
 refine he H Q w s ?_
 cases m with
 |bad=>exact P
 |err x=>exact P
 |ok a=>exact P
end
structure XI (K:PySem.W.Frag)(mg:Str->Option Value)(n f:Str):Prop where
 ex:∀C,mg n=some (.ref C)->∃Pa fI fd,ExI K C Pa fI f/\Vt K fd ["self",f] []/\∀(P:Program) (w:World) (base:Heap),FnOk P w K mg base (CXD P w) 1 fI fd ["self",f] (spI C f)
 di:∀C,mg n=some (.ref C)->PySem.W.hasDictIn K C=true/\PySem.W.findIn K (.ref C) f=some none
theorem VZ {n d:Str}(h:Y6 n d=true)(hd:(d==("PlaitError":Str))=false):n=d:=by
 unfold Y6 at h
 rw[hd,Bool.or_false] at h
 exact eq_of_beq h
section
variable {X:Cx}
noncomputable def KN:V->List V->Hp->VK->Prop:=λx vs H Q=>∃ l xs y,∃i:Nat,x= .ref l/\vs=[.int (i:Int),y]/\H l=some (.lst xs)/\i<=xs.length+1/\xs.length<sizeLine/\Q .non (upd H l (.lst (xs.take i++y::xs.drop i)))
theorem Qa:MtM X "list.insert" KN:=by
 intro pins s σ H x vs v us Q I rx rv h
 obtain⟨l,xs,y,i,rfl,rfl,hH,hi,hz,q⟩:=h
 cases rx
 obtain⟨z,its,n,r,hl,e⟩:=I.lstM hH
 cases rv with
 |cons r1 r2=>
  cases r2 with
  |cons r3 r4=>
   cases r4
   rename_i u1 u2
   obtain⟨t,rfl⟩:∃t,u1=Value.int (i:Int) t:=r1
   have hil:i<=its.length+1:=by (first|lia|omega)
   have ht:its.take i=its.take (min i its.length)/\its.drop i=its.drop (min i its.length):=by
    by_cases c:i<=its.length
    ·rw[Nat.min_eq_left c];exact⟨rfl,rfl⟩
    ·rw[Nat.min_eq_right (by (first|lia|omega)),List.take_of_length_le (by (first|lia|omega)),List.take_of_length_le (Nat.le_refl _),List.drop_of_length_le (by (first|lia|omega)),List.drop_of_length_le (Nat.le_refl _)]
     exact⟨rfl,rfl⟩
   obtain⟨x,hx⟩:∃x:Int,x=(i:Int):=⟨_,rfl⟩
   rw[←hx]
   have hf:¬(!Builtin.List.listFitsIndex x)=true:=by
    have h2:sizeLine<=2^60:=by decide
    have h3:Builtin.List.listFitsIndex x=true:=by
     unfold Builtin.List.listFitsIndex
     rw[Bool.and_eq_true,decide_eq_true_eq,decide_eq_true_eq]
     (first|lia|omega)
    rw[h3];decide
   have hsz:its.toArray.size<=sizeLine:=by rw[List.size_toArray];(first|lia|omega)
   have M:=PySem.AutoListH.list_insert_list_int_val_1 l its.toArray n x t u2 hf hsz
   refine call_meets F.slot_list_insert ⟨_,e,rfl⟩ F.entry_list_insert (F.args_list_insert_3 _ _ _) M ⟨e,?_⟩
   refine⟨.non,_,I.lset (its':=its.take i++u2::its.drop i) hH e ?_ ?_ ?_,rfl,q⟩
   ·have hk:(if x<0 then(x+((its.toArray.size:Nat):Int)).toNat else min x.toNat its.toArray.size)=min i its.length:=by
     rw[if_neg (by (first|lia|omega)),hx,Int.toNat_natCast,List.size_toArray]
    dsimp only
    rw[hk,ht.1,ht.2]
    apply Array.toList_inj.mp
    simp
    exact List.take_of_length_le (by simp)
   ·exact(Yg.take i r).append (.cons r3 (Yg.drop i r))
   ·rw[List.length_append,List.length_cons,List.length_take,List.length_drop];(first|lia|omega)
end
section
variable {K:PySem.W.Frag}{Er:Exc->Hp->Prop}{S:SC}{OO OO':List (List XA)}{σ:St}{α β:Type}{u:TS}{Fd:Ends->β->Hp->Prop}[fd:FdOk Fd]
theorem V3 {ta:TE}{r:Enc α}[FlatE r]{m:Rs (List α)}{f:List α->Rs β}{v:V}{as:List α}{C:List XA}(i k:Nat)(hσ:σ[i]?=some (some v))(hk:OO[k]?=some C)(h:∀x,S.p x->oL (oF r) K x v as C)(he:EvB K Er S OO σ ta (rV r) m)
  (hr:∀bs C',Sv Er (S.addO K (oL (oF r)) v (as++bs) C') (OO.set k C') σ u Fd (f (as++bs))):Sv Er S OO σ (Qr (Jd (tBM K "list" KB (QD i) (XT ta ZQ))) u) Fd (m.bind λbs=>chk (as.length+bs.length<=sizeLine) (f (as++bs))):=λH D w s P=>by
 obtain⟨p,xs,Cs,e,q,c⟩:=h _ s
 subst c
 have hH:H p=some (.lst xs):=w.tr (p, .lst xs) (List.mem_flatten.mpr ⟨_,List.mem_of_getElem? hk,List.mem_cons_self⟩)
 refine⟨v,hσ,by rw[e];exact .inl ⟨rfl,_,SqL.of hH⟩,he.stB (Fd:=Fd) w s P λbs y H' s1 w' s' ho P'=>?_⟩
 obtain⟨hsz,P'⟩:=PZ.chk P'
 subst e
 obtain⟨Cs2,q2,c2⟩:=JW (h _ s')
 obtain⟨p',zs,e3,hH2,q3⟩:=ho
 have hH':H' p=some (.lst xs):=w'.tr (p, .lst xs) (List.mem_flatten.mpr ⟨_,List.mem_of_getElem? hk,List.mem_cons_self⟩)
 obtain⟨qa,qn⟩:=P3.flat q2
 have w0:W ([]::OO) H':=w'.nil
 obtain⟨w3,m3⟩:=E9 (D:=[]) (Cs:=[]) (Cs':=[]) (xs:=xs) (xs':=xs++zs) w0 (by rw[hk,c2,qn];rfl) (λc hc=>nomatch hc) (by simp)
 rw[YO] at m3
 refine⟨p,p',xs,zs,rfl,by rw[e3],hH',hH2,by rw[qa.length,q3.length];exact hsz,?_⟩
 refine hr bs _ _ D w3 ⟨S.mono _ _ m3 s',⟨p,_,List.replicate (as++bs).length [],rfl,P3.of ?_,by rw[Yk];rfl⟩⟩ (PZ.tr (fd.tr D) m3 P')
 exact Paired.app (Paired.imp2 (λ_ _ z=>MonoE.mono m3 z) qa) (Paired.imp2 (λ_ _ z=>MonoE.mono m3 (FlatE.flat w'.i z)) q3)
noncomputable def Gk (as:List α)(j:Int)(a:α):Rs (List α):=chk (0<=j/\j<=(as.length:Int)+1/\as.length<sizeLine) (.ok (as.take j.toNat++a::as.drop j.toNat))
theorem BJ {ti ta:TE}{r:Enc α}[MonoE r]{mi:Rs Int}{m:Rs α}{f:List α->Rs β}{v:V}{as:List α}{C:List XA}(i k:Nat)(hσ:σ[i]?=some (some v))(hk:OO[k]?=some C)(h:∀x,S.p x->oL (oF r) K x v as C)(hi:EvB K Er S OO σ ti Xa mi)(he:EvS K Er S OO σ ta r m)
  (hr:∀bs C',Sv Er (S.addO K (oL (oF r)) v bs C') (OO.set k C') σ u Fd (f bs)):Sv Er S OO σ (Qr (Jd (tBM K "list" KN (QD i) (XT ti (XT ta ZQ)))) u) Fd (mi.bind λj=>m.bind λa=>(Gk as j a).bind f):=λH D w s P=>by
 obtain⟨p,xs,Cs,e,q,c⟩:=h _ s
 subst c
 have hH:H p=some (.lst xs):=w.tr (p, .lst xs) (List.mem_flatten.mpr ⟨_,List.mem_of_getElem? hk,List.mem_cons_self⟩)
 refine⟨v,hσ,by rw[e];exact .inl ⟨rfl,_,SqL.of hH⟩,hi.stB (Fd:=Fd) w s P λj z H1 s1 w1 q1 rz P1=>he.st w1 q1 P1 λa y H' s2 w' s' ho P'=>?_⟩
 subst e
 unfold Gk at P'
 have P2:PZ Er (Fd D) (hid H' OO) (chk (0<=j/\j<=(as.length:Int)+1/\as.length<sizeLine) (f (as.take j.toNat++a::as.drop j.toNat))):=by
  unfold chk at P'⊢
  split at P'
  ·rename_i hc;rw[if_pos hc];exact P'
  ·exact P'.elim
 obtain⟨⟨h0,h1,hz⟩,P3'⟩:=PZ.chk P2
 obtain⟨Cs2,q2,c2⟩:=JW (h _ s')
 have hH':H' p=some (.lst xs):=w'.tr (p, .lst xs) (List.mem_flatten.mpr ⟨_,List.mem_of_getElem? hk,List.mem_cons_self⟩)
 obtain⟨qa,qn⟩:=P3.flat q2
 have hl:=qa.length
 obtain⟨jn,rfl⟩:∃jn:Nat,j=(jn:Int):=⟨j.toNat,by (first|lia|omega)⟩
 rw[Int.toNat_natCast] at P3'
 have w0:W ([]::OO) H':=w'.nil
 obtain⟨w3,m3⟩:=E9 (D:=[]) (Cs:=[]) (Cs':=[]) (xs:=xs) (xs':=xs.take jn++y::xs.drop jn) w0 (by rw[hk,c2,qn];rfl) (λc hc=>nomatch hc) (by simp)
 rw[YO] at m3
 have ez:z= .int (jn:Int):=rz
 refine⟨p,xs,y,jn,rfl,by rw[ez],hH',by (first|lia|omega),by (first|lia|omega),?_⟩
 refine hr _ _ _ D w3 ⟨S.mono _ _ m3 s',⟨p,_,List.replicate (as.take jn++a::as.drop jn).length [],rfl,P3.of ?_,by rw[Yk];rfl⟩⟩ (PZ.tr (fd.tr D) m3 P3')
 exact Paired.imp2 (λ_ _ z=>MonoE.mono m3 z) (Paired.app (Paired.take' jn qa) (.cons ho (Paired.drop' jn qa)))
end
noncomputable def Al (C:List XA)(kk:Nat)(v:V):Prop:=∃ p xs R,C=(p, .lst xs)::R/\xs[kk]?=some v
noncomputable def rAl (C:List XA):Enc Nat:=λ_ _ v kk=>Al C kk v
instance {C:List XA}:MonoE (rAl C):=⟨λ_ h=>h⟩
section
variable {K:PySem.W.Frag}{Er:Exc->Hp->Prop}{S:SC}{OO:List (List XA)}{σ:St}{α β:Type}{u:TS}{Fd:Ends->β->Hp->Prop}[fd:FdOk Fd]
theorem VO {r:Enc α}[z:MonoE r]{H:Hp}{k kk:Nat}{C:List XA}{v y:V}{as:List (List α)}{row:List α}(w:W OO H)(hk:OO[k]?=some C)(o:oL (oL (oF r)) K (hid H OO) v as C)(al:Al C kk y)(hrow:as[kk]?=some row):
  ∃q ys,y= .ref q/\H q=some (.lst ys)/\Paired (r K (hid H OO)) ys row/\∀ys' row',Paired (r K (hid H OO)) ys' row'->∃C',W (OO.set k C') (upd H q (.lst ys'))/\Xw (hid H OO) (hid (upd H q (.lst ys')) (OO.set k C'))/\oL (oL (oF r)) K (hid (upd H q (.lst ys')) (OO.set k C')) v (as.set kk row') C'/\Al C' kk y:=by
 obtain⟨p,xs,Cs,e,q,c⟩:=o
 subst c e
 obtain⟨p',xs',R,ec,hy⟩:=al
 injection ec with e1 e2
 injection e1 with e3 e4
 injection e4 with e5
 subst e5
 obtain⟨q0,ys,g1,g2,g3⟩:=Uw q hrow
 rw[g1] at hy
 cases hy
 have hin:∀c∈(p,HO.lst xs)::Cs.flatten,c∈OO.flatten:=λc hc=>List.mem_flatten.mpr ⟨_,List.mem_of_getElem? hk,hc⟩
 have hH:H p=some (.lst xs):=w.tr (p, .lst xs) (hin _ List.mem_cons_self)
 have hm:(q0,HO.lst ys)∈Cs.flatten:=JL g2 _ (by simp)
 have hq0:H q0=some (.lst ys):=w.tr (q0, .lst ys) (hin _ (List.mem_cons_of_mem _ hm))
 have ne:p≠q0:=λz=>by
  have cn:(((p,HO.lst xs)::Cs.flatten).map (·.1)).Nodup:=w.nd.sublist (List.Sublist.map _ (List.sublist_flatten_of_mem (List.mem_of_getElem? hk)))
  rw[List.map_cons,List.nodup_cons] at cn
  exact cn.1 (List.mem_map.mpr ⟨_,hm,z.symm⟩)
 refine⟨q0,ys,rfl,hq0,g3,λys' row' pr=>?_⟩
 obtain⟨C',w4,m4,o4⟩:=KK (ys':=ys') (row':=row') (v:=.ref p) w hk q hrow g1 hq0 g2 pr
 refine⟨C',w4,m4,o4,?_⟩
 obtain⟨p2,xs2,Cs2,ep,_,ec2⟩:=o4
 cases ep
 have hlen:k<OO.length:=(List.getElem?_eq_some_iff.mp hk).1
 have h5:=w4.tr (p, .lst xs2) (List.mem_flatten.mpr ⟨C',List.mem_of_getElem? (List.getElem?_set_self hlen),by rw[ec2];exact List.mem_cons_self⟩)
 rw[Xv ne,hH] at h5
 cases h5
 exact⟨p,xs,_,ec2,g1⟩
noncomputable def alR (as:List (List α))(x:Int):Rs Nat:=match ixN as.length x with
 |some kk=>.ok kk
 |none=>.bad
noncomputable def JM (as:List (List α))(kk:Nat):Rs (List α):=match as[kk]? with
 |some row=>.ok row
 |none=>.bad
theorem Hl {n:Nat}{x:Int}{kk:Nat}(h:ixN n x=some kk):kk<n:=by
 unfold ixN at h
 split at h
 ·split at h
  ·cases h;(first|lia|omega)
  ·cases h
 ·split at h
  ·cases h;(first|lia|omega)
  ·cases h
theorem CQ {ti:TE}{r:Enc α}[MonoE r]{mi:Rs Int}{f:Nat->Rs β}{v:V}{as:List (List α)}{C:List XA}(i k j:Nat)(hσ:σ[i]?=some (some v))(hk:OO[k]?=some C)(h:∀x,S.p x->oL (oL (oF r)) K x v as C)(hi:EvB K Er S OO σ ti Xa mi)
  (hr:∀kk y,Sv Er (S.add K (rAl C) y kk) OO (σ.set j (some y)) u Fd (f kk)):
  Sv Er S OO σ (Qr (FU (tOp (BS K) (QD i) ti) (Z2 j)) u) Fd (mi.bind λx=>(alR as x).bind f):=λH D w s P=>
 ⟨v,hσ,hi.stB (Fd:=Fd) w s P λx vx H2 s2 w2 q2 r2 P2=>by
  unfold alR at P2
  cases hkk:ixN as.length x with
  |none=>rw[hkk] at P2;exact P2.elim
  |some kk=>
   rw[hkk] at P2
   obtain⟨p,xs,Cs,e,q,c⟩:=h _ q2
   subst c e
   obtain⟨row,hrow⟩:∃row,as[kk]?=some row:=⟨_,List.getElem?_eq_getElem (Hl hkk)⟩
   obtain⟨q0,ys,g1,g2,g3⟩:=Uw q hrow
   have hH:H2 p=some (.lst xs):=w2.tr (p, .lst xs) (List.mem_flatten.mpr ⟨_,List.mem_of_getElem? hk,List.mem_cons_self⟩)
   exact⟨p,xs,x, .ref q0,rfl,r2,SqL.of hH,by unfold atI;rw[q.len.1,hkk];exact g1,hr kk (.ref q0) H2 D w2 ⟨q2,p,xs,_,rfl,g1⟩ P2⟩⟩
theorem Gj {r:Enc α}[z:MonoE r]{v y:V}{as:List (List α)}{C:List XA}{kk:Nat}(j k:Nat)(hσ:σ[j]?=some (some y))(hk:OO[k]?=some C)(h:∀x,S.p x->oL (oL (oF r)) K x v as C)(ha:∀x,S.p x->rAl C K x y kk):EvB K Er S OO σ (QD j) (rV r) (JM as kk):=λH Q w s P=>by
 unfold JM at P
 cases hrow:as[kk]? with
 |none=>rw[hrow] at P;exact P.elim
 |some row=>
  rw[hrow] at P
  obtain⟨q,ys,e,hq,pr,_⟩:=VO w hk (h _ s) (ha _ s) hrow
  exact⟨y,hσ,P y H (Xw.refl _) ⟨q,ys,e,hq,Paired.imp2 (λ_ _ h=>z.mono XB h) pr⟩⟩
theorem Bm {ta tj:TE}{r:Enc α}[z:MonoE r]{m:Rs α}{mj:Rs Int}{f:List (List α)->Rs β}{v y:V}{as:List (List α)}{C:List XA}{kk:Nat}(j k:Nat)(hσ:σ[j]?=some (some y))(hk:OO[k]?=some C)(h:∀x,S.p x->oL (oL (oF r)) K x v as C)(ha:∀x,S.p x->rAl C K x y kk)(he:EvS K Er S OO σ ta r m)(hj:EvB K Er S OO σ tj Xa mj)
  (hr:∀bs C',Sv Er ((S.addO K (oL (oL (oF r))) v bs C').add K (rAl C') y kk) (OO.set k C') σ u Fd (f bs)):
  Sv Er S OO σ (Qr (FU ta (Ls (QD j) tj B6)) u) Fd (m.bind λa=>mj.bind λx=>(JM as kk).bind λrow=>(Qg row x a).bind λrow'=>f (as.set kk row')):=λH D w s P=>
 he.st w s P λa va H1 s1 w1 q1 r1 P1=>⟨y,hσ,hj.stB (Fd:=Fd) w1 q1 P1 λx vx H2 s2 w2 q2 r2 P2=>by
  unfold JM at P2
  cases hrow:as[kk]? with
  |none=>rw[hrow] at P2;exact P2.elim
  |some row=>
   rw[hrow] at P2
   obtain⟨q,ys,e,hq,pr,up⟩:=VO w2 hk (h _ q2) (ha _ q2) hrow
   have P3':PZ Er (Fd D) (hid H2 OO) ((Qg row x a).bind λrow'=>f (as.set kk row')):=P2
   cases eb:Qg row x a with
   |bad=>rw[eb] at P3';exact P3'.elim
   |err ex=>exact absurd eb DR
   |ok row'=>
    rw[eb] at P3'
    obtain⟨jj,hjj,rfl⟩:=DJ eb
    obtain⟨C',w4,m4,o4,al4⟩:=up (ys.set jj va) _ (VE (z.mono (Xn s2) r1) jj pr)
    exact⟨q,ys,x,jj,e,r2,hq,by rw[Paired.len pr];exact hjj,hr _ C' _ D w4 ⟨⟨S.mono _ _ m4 q2,o4⟩,al4⟩ (PZ.tr (fd.tr D) m4 P3')⟩⟩
theorem Us {ta tj:TE}{r:Enc α}[z:MonoE r]{m:Rs α}{mj:Rs Int}{f:List (List α)->Rs β}{v y:V}{as:List (List α)}{C:List XA}{kk:Nat}(j k:Nat)(hσ:σ[j]?=some (some y))(hk:OO[k]?=some C)(h:∀x,S.p x->oL (oL (oF r)) K x v as C)(ha:∀x,S.p x->rAl C K x y kk)(hj:EvB K Er S OO σ tj Xa mj)(he:EvS K Er S OO σ ta r m)
  (hr:∀bs C',Sv Er ((S.addO K (oL (oL (oF r))) v bs C').add K (rAl C') y kk) (OO.set k C') σ u Fd (f bs)):
  Sv Er S OO σ (Qr (Jd (tBM K "list" KN (QD j) (XT tj (XT ta ZQ)))) u) Fd ((JM as kk).bind λrow=>mj.bind λx=>m.bind λa=>(Gk row x a).bind λrow'=>f (as.set kk row')):=λH D w s P=>by
 unfold JM at P
 cases hrow:as[kk]? with
 |none=>rw[hrow] at P;exact P.elim
 |some row=>
  rw[hrow] at P
  obtain⟨q,ys,e,hq,pr,_⟩:=VO w hk (h _ s) (ha _ s) hrow
  have P0:PZ Er (Fd D) (hid H OO) (mj.bind λx=>m.bind λa=>(Gk row x a).bind λrow'=>f (as.set kk row')):=P
  refine⟨y,hσ,by rw[e];exact .inl ⟨rfl,_,SqL.of hq⟩,hj.stB (Fd:=Fd) w s P0 λx vx H1 s1 w1 q1 r1 P1=>he.st w1 q1 P1 λa va H2 s2 w2 q2 r2 P2=>?_⟩
  obtain⟨q',ys',e',hq',pr',up⟩:=VO w2 hk (h _ q2) (ha _ q2) hrow
  unfold Gk at P2
  have P3':PZ Er (Fd D) (hid H2 OO) (chk (0<=x/\x<=(row.length:Int)+1/\row.length<sizeLine) (f (as.set kk (row.take x.toNat++a::row.drop x.toNat)))):=by
   unfold chk at P2⊢
   split at P2
   ·rename_i hc;rw[if_pos hc];exact P2
   ·exact P2.elim
  obtain⟨⟨h0,h1,hz⟩,P4⟩:=PZ.chk P3'
  obtain⟨jn,rfl⟩:∃jn:Nat,x=(jn:Int):=⟨x.toNat,by (first|lia|omega)⟩
  rw[Int.toNat_natCast] at P4
  have hl:=Paired.len pr'
  obtain⟨C',w4,m4,o4,al4⟩:=up (ys'.take jn++va::ys'.drop jn) _ (Paired.app (Paired.take' jn pr') (.cons r2 (Paired.drop' jn pr')))
  have ex:vx= .int (jn:Int):=r1
  exact⟨q',ys',va,jn,e',by rw[ex],hq',by (first|lia|omega),by (first|lia|omega),hr _ C' _ D w4 ⟨⟨S.mono _ _ m4 q2,o4⟩,al4⟩ (PZ.tr (fd.tr D) m4 P4)⟩
theorem CD {tj:TE}{r:Enc α}[z:MonoE r]{mj:Rs Int}{f:List (List α)->Rs β}{v y:V}{as:List (List α)}{C:List XA}{kk:Nat}(j k:Nat)(hσ:σ[j]?=some (some y))(hk:OO[k]?=some C)(h:∀x,S.p x->oL (oL (oF r)) K x v as C)(ha:∀x,S.p x->rAl C K x y kk)(hj:EvB K Er S OO σ tj Xa mj)
  (hr:∀bs C',Sv Er ((S.addO K (oL (oL (oF r))) v bs C').add K (rAl C') y kk) (OO.set k C') σ u Fd (f bs)):
  Sv Er S OO σ (Qr (Jd (tBM K "list" VL (QD j) (XT tj ZQ))) u) Fd ((JM as kk).bind λrow=>mj.bind λx=>(VQ row x).bind λp=>f (as.set kk p.2)):=λH D w s P=>by
 unfold JM at P
 cases hrow:as[kk]? with
 |none=>rw[hrow] at P;exact P.elim
 |some row=>
  rw[hrow] at P
  obtain⟨q,ys,e,hq,pr,_⟩:=VO w hk (h _ s) (ha _ s) hrow
  have P0:PZ Er (Fd D) (hid H OO) (mj.bind λx=>(VQ row x).bind λp=>f (as.set kk p.2)):=P
  refine⟨y,hσ,by rw[e];exact .inl ⟨rfl,_,SqL.of hq⟩,hj.stB (Fd:=Fd) w s P0 λx vx H2 s2 w2 q2 r2 P2=>?_⟩
  obtain⟨q',ys',e',hq',pr',up⟩:=VO w2 hk (h _ q2) (ha _ q2) hrow
  cases eb:VQ row x with
  |bad=>rw[eb] at P2;exact P2.elim
  |err ex=>exact absurd eb Du
  |ok p=>
   rw[eb] at P2
   obtain⟨⟨h1,h2⟩,k1,hk1,hp1,hp2⟩:=Do eb
   have hl:=Paired.len pr'
   obtain⟨yy,hyy⟩:∃yy,ys'[k1]?=some yy:=by
    have hlt:=(List.getElem?_eq_some_iff.mp hp1).1
    exact⟨_,List.getElem?_eq_getElem (by (first|lia|omega))⟩
   have pe:Paired (r K (hid H2 OO)) (ys'.eraseIdx k1) p.2:=by
    rw[hp2,List.eraseIdx_eq_take_drop_succ,List.eraseIdx_eq_take_drop_succ]
    exact Paired.app (Paired.take' k1 pr') (Paired.drop' (k1+1) pr')
   obtain⟨C',w4,m4,o4,al4⟩:=up (ys'.eraseIdx k1) _ pe
   have ex:vx= .int x:=r2
   exact⟨q',ys',x,k1,yy,e',by rw[ex],hq',h1,h2,by rw[hl];exact hk1,hyy,hr _ C' _ D w4 ⟨⟨S.mono _ _ m4 q2,o4⟩,al4⟩ (PZ.tr (fd.tr D) m4 P2)⟩
end
section
variable {K:PySem.W.Frag}{Er:Exc->Hp->Prop}{S:SC}{OO OO':List (List XA)}{σ:St}{α β γ ρ ι:Type}{α1:Type}{mg:Str->Option Value}{E:XK}{u:TS}
theorem HW {o:OE ρ}[MonoO o]{t:TS}{m:Rs ρ}{Q:VK}{H:Hp}{D:Ends}(n:Nat)(h:Sv Er S (List.replicate n []) σ t (FTd K o) m)(hs:S.p H)(PP:PX Er (FF K o Q) H m)(hD:D.rt=Q):t D σ H:=by
 have P:=PP.z
 refine h H D (HI n H) (by rw[Cl];exact hs) ?_
 rw[Cl]
 cases m with
 |bad=>exact P
 |err x=>exact P
 |ok b=>
  intro v C OO' H' w mm ho
  rw[hD]
  exact BD P v C OO' H' w mm ho
theorem H9 {o:OE ρ}[FlatO o]{Q:VK}{H:Hp}{m:Rs ρ}(w:W OO H)(P:PZ Er (FO K OO OO o Q) H (noE m)):PZ (ErD K mg E0) (FF K o Q) H m:=by
 cases m with
 |bad=>exact P
 |err x=>exact P.elim
 |ok b=>exact Ja w P
theorem UX {ta:TE}{r1:Enc α1}{o:OE ρ}[FlatO o]{f:α1->Rs ρ}{ma:Rs α1}(ha:EvB K Er S OO σ ta r1 ma):Ev K Er S OO OO σ (UW (HG mg r1 o f K) [] E0 (XT ta ZQ)) o (ma.bind λa=>noE (f a)):=λH Q w s P=>
 ha.run w s FO.tr P λa x H1 s1 w1 q1 r1 P1=>⟨x,a,rfl,r1,⟨H9 w1 P1⟩⟩
theorem CN {ta:TE}{r1:Enc α1}{o1:OE γ}[FlatO o1]{f:α1->Rs γ}{ma:Rs α1}{ts:Addr->Addr->Option Addr->TS}{i:Nat}{Ch:Addr}{o:OE ρ}{g:Exc->Rs ρ}{k:Rs ρ}{ns:List Str}{d:Str}(Y:Ecs ns K mg)(hd:d∈ns)(hm:mg d=some (.ref Ch))
  (ha:EvB K Er S OO σ ta r1 ma)
  (hs:∀x,x.cls∈ns->Y6 x.cls d=true->∀C a od,mg x.cls=some (.ref C)->Sv Er (S.add K (Hf (fOf x.cls) od) .non x.pay) OO (σ.set i (some (.ref a))) (ts a C od) (FTd K o) (g x))
  (hr:Sv Er S OO σ u (FTd K o) k):
  Sv Er S OO σ (Qr (Il (HG mg r1 o1 f K) K (.ref Ch) i (XT ta ZQ) ts) u) (FTd K o)
   (ma.bind λa=>(f a).tryC (λ_=>k) (λx=>chk (cau ns x.cls d=true) (g x))):=λH D w s P=>by
 refine ha.stB (Fd:=FTd K o) w s P λa v1 H1 s1 w1 q1 ra P1=>?_
 refine⟨v1,a,rfl,ra,⟨?_⟩⟩
 generalize f a=m at P1⊢
 cases m with
 |bad=>exact P1
 |ok b=>
  refine Ja w1 λv C H' s' w' m' ho=>?_
  have w2:W OO H':=w'.sub (by rw[List.flatten_cons];exact List.sublist_append_right _ _)
  have m2:Xw (hid H1 OO) (hid H' OO):=m'.trans (QA (Xw.refl _) λb hb=>by rw[Yh];exact List.mem_append_right _ hb)
  exact hr H' D w2 (S.mono _ _ m2 q1) (PZ.tr (FdOk.tr (Fd:=FTd K o) D) m2 P1)
 |err x=>
  intro H' s' C hC od hp
  obtain⟨hc',P4⟩:=DM (c:=cau ns x.cls d=true) (m:=g x) P1
  unfold cau at hc'
  rw[Bool.and_eq_true,decide_eq_true_eq] at hc'
  exact⟨by rw[Y.exm _ hc'.1 d hd C Ch hC hm,hc'.2],λa' C' hC' _=>hs x hc'.1 hc'.2 C' a' od (hC'.symm▸hC) H' _ (w1.keep s') ⟨S.mono _ _ (Xn s') q1,BT (w1.keep s') hp⟩ (PZ.tr (FdOk.tr (Fd:=FTd K o) D) (Xn s') P4)⟩
noncomputable def LJ:Fv->Rs (Option (List SI))
 | .non=>.ok none
 | .tup xs=>.ok (some xs)
 | .int _=>.bad
theorem Ci {te:TE}{m:Rs Fv}(he:EvS K Er S OO σ te rFv m):EvS K Er S OO σ te (Y0 (rPL rSI)) (m.bind LJ):=λH Q w s P=>by
 refine he H Q w s ?_
 cases m with
 |bad=>exact P
 |err x=>exact P
 |ok a=>cases a with
  |non=>exact λv H' s' r=>P v H' s' r
  |int i=>exact P.elim
  |tup xs=>exact λv H' s' r=>P v H' s' ⟨λz=>(by obtain⟨a,_,e,_⟩:=r;rw[e] at z;cases z),r⟩
end
section
variable {K:PySem.W.Frag}{Er:Exc->Hp->Prop}{S:SC}{OO:List (List XA)}{σ:St}
noncomputable def siS:SI->Rs Str
 | .inl t=>.ok t
 | .inr _=>.bad
theorem EQ {te:TE}{m:Rs SI}(he:EvB K Er S OO σ te rSI m):EvB K Er S OO σ te Yu (m.bind siS):=λH Q w s P=>by
 refine he H Q w s ?_
 cases m with
 |bad=>exact P
 |err x=>exact P
 |ok a=>cases a with
  |inl t=>exact λv H' s' r=>P v H' s' r
  |inr i=>exact P.elim
theorem DX {α:Type}{ta:TE}{r:Enc α}{m:Rs (List α)}(ha:EvB K Er S OO σ ta (rPL r) m):EvB K Er S OO σ ta (Y0 (rPL r)) (m.bind λa=>.ok (some a)):=λH Q w s P=>by
 refine ha H Q w s ?_
 cases m with
 |bad=>exact P
 |err x=>exact P
 |ok a=>exact λv H' s' r=>P v H' s' ⟨λz=>(by obtain⟨a,_,e,_⟩:=r;rw[e] at z;cases z),r⟩
end
section
variable {K:PySem.W.Frag}{Er:Exc->Hp->Prop}{S:SC}{OO OO':List (List XA)}{σ:St}{α β γ:Type}{u:TS}{Fd:Ends->β->Hp->Prop}[fd:FdOk Fd]
theorem G8 {te:TE}{o1:OE α}{o2:OE γ}[z1:MonoO o1][z2:MonoO o2]{m:Rs (α×γ)}{f:α×γ->Rs β}(i j k1 k2:Nat)(he:Ev K Er S OO OO' σ te (oT2 o1 o2) m)(hk1:k1<OO'.length)(hk2:k2<OO'.length)
  (hr:∀a v w C1 C2,Sv Er ((S.addO K o1 v a.1 C1).addO K o2 w a.2 C2) ((OO'.set k1 C1).set k2 C2) ((σ.set i (some v)).set j (some w)) u Fd (f a)):Sv Er S OO σ (Qr (FU te (Hg K 2 (V8 (Z2 i) (V8 (Z2 j) Hv)))) u) Fd (m.bind f):=λH D w s P=>
 he.st w s P λa v C H' w' s' ho P'=>by
  obtain⟨p,x,y,C1,C2,e,hp,h1,h2,c⟩:=ho
  subst c e
  have pm2:(C1::C2::OO').flatten.Perm ((C1++C2)::OO').flatten:=by
   simp only[List.flatten_cons]
   rw[List.append_assoc]
  have w1:W (C1::C2::OO') H':=w'.of pm2
  obtain⟨w2,m2⟩:=Io (k:=k1+1) w1 (by rw[List.length_cons];exact Nat.succ_lt_succ hk1)
  have w2':W (C2::OO'.set k1 C1) H':=w2
  obtain⟨w3,m3⟩:=Io (k:=k2) w2' (by rw[List.length_set];exact hk2)
  have m4:Xw (hid H' ((C1++C2)::OO')) (hid H' ((OO'.set k1 C1).set k2 C2)):=by
   rw[←Yd pm2]
   exact Xw.trans m2 m3
  exact⟨p,_,rfl,SqT.of (XB _ _ hp),rfl,x,[y],rfl,y,[],rfl,rfl,hr a x y C1 C2 H' D w3 ⟨⟨S.mono _ _ m4 s',z1.mono m4 h1⟩,z2.mono m4 h2⟩ (PZ.tr (fd.tr D) m4 P')⟩
theorem DB {ti:TE}{r:Enc α}[MonoE r]{mi:Rs Int}{f:List α->Rs β}{v:V}{as:List α}{C:List XA}(i k:Nat)(hσ:σ[i]?=some (some v))(hk:OO[k]?=some C)(h:∀x,S.p x->oL (oF r) K x v as C)(hi:EvB K Er S OO σ ti Xa mi)
  (hr:∀bs C',Sv Er (S.addO K (oL (oF r)) v bs C') (OO.set k C') σ u Fd (f bs)):Sv Er S OO σ (Qr (Jd (tBM K "list" VL (QD i) (XT ti ZQ))) u) Fd (mi.bind λj=>(VQ as j).bind λp=>f p.2):=λH D w s P=>
 KI (te:=ti) (f:=λp=>f p.2) i k hσ hk h hi w s P λa bs y C' H' w' s' P'=>hr bs C' H' D w' ⟨s'.1.1,s'.2⟩ P'
theorem Fw {ta ti tl:TE}{r:Enc α}[z:MonoE r]{m:Rs α}{mi:Rs Int}{f:List (List α)->Rs β}{v:V}{as:List (List α)}{C:List XA}(k:Nat)(hte:∀(H:Hp) (Q:VK),W OO H->S.p (hid H OO)->Q v H->tl σ H Q)(hk:OO[k]?=some C)(h:∀x,S.p x->oL (oL (oF r)) K x v as C)(he:EvS K Er S OO σ ta r m)
  (hi:EvB K Er S OO σ ti Xa mi)
  (hr:∀bs C',Sv Er (S.addO K (oL (oL (oF r))) v bs C') (OO.set k C') σ u Fd (f bs)):
  Sv Er S OO σ (Qr (Jd (tBM K "list" Q4 (tOp (BS K) tl ti) (XT ta ZQ))) u) Fd (mi.bind λx=>(atR as x).bind λrow=>m.bind λa=>chk (row.length<sizeLine) ((Qg as x (row++[a])).bind f)):=λH D w s P=>
 hte _ _ w s (hi.st w s P λx vx H2 s2 w2 q2 r2 P2=>by
  cases ea:atR as x with
  |bad=>rw[ea] at P2;exact P2.elim
  |err ex=>exact absurd ea U7
  |ok row=>
   rw[ea] at P2
   obtain⟨kk,hkk,hrow⟩:=BO ea
   obtain⟨p,xs,Cs,e,q,c⟩:=h _ q2
   subst c e
   obtain⟨q0,ys,g1,g2,g3⟩:=Uw q hrow
   have hin:∀c∈(p,HO.lst xs)::Cs.flatten,c∈OO.flatten:=λc hc=>List.mem_flatten.mpr ⟨_,List.mem_of_getElem? hk,hc⟩
   have hH:H2 p=some (.lst xs):=w2.tr (p, .lst xs) (hin _ List.mem_cons_self)
   have hq0:H2 q0=some (.lst ys):=w2.tr (q0, .lst ys) (hin _ (List.mem_cons_of_mem _ (JL g2 _ (by simp))))
   refine⟨p,xs,x, .ref q0,rfl,r2,SqL.of hH,by unfold atI;rw[q.len.1,hkk];exact g1, .inl ⟨rfl,_,SqL.of hq0⟩,he.st w2 q2 (f:=λa=>chk (row.length<sizeLine) ((Qg as x (row++[a])).bind f)) P2 λa va H3 s3 w3 q3 r3 P3'=>?_⟩
   obtain⟨hsz,P3'⟩:=PZ.chk P3'
   have P4:PZ Er (Fd D) (hid H3 OO) (f (as.set kk (row++[a]))):=by
    have e5:Qg as x (row++[a])= .ok (as.set kk (row++[a])):=by unfold Qg;rw[hkk]
    rw[e5] at P3'
    exact P3'
   have m3:=Xn (OO:=OO) s3
   obtain⟨C',w4,m4,o4⟩:=KK (ys':=ys++[va]) (row':=row++[a]) (v:=.ref p) w3 hk (P3.imp (λ_ _ _ h=>MonoO.mono m3 h) q) hrow g1 (s3 _ _ hq0) g2 (Paired.app (Paired.imp2 (λ_ _ h=>z.mono m3 h) g3) (.cons r3 .nil))
   exact⟨q0,ys,va,rfl,rfl,s3 _ _ hq0,by rw[Paired.len g3];exact hsz,hr _ C' _ D w4 ⟨S.mono _ _ m4 q3,o4⟩ (PZ.tr (fd.tr D) m4 P4)⟩)
end
end L2
namespace My
open PySem L2
noncomputable abbrev XM:List Str:=["PlaitError","NotADrawing","NoCrossing","TooBig"]
noncomputable def YK (a_0:(List (List Int))):Rs (List (Int×Bool)):=(Rs.bind (Rs.ok []) λa1=>(Rs.bind (Rs.ok a_0) λx25=>(Rs.bind (forN x25 (a1) (λg6 a8=>(Rs.bind (Rs.ok a8) λx22=>(Rs.bind (forN x22 (g6) (λg12 a14=>(Rs.bind (Rs.ok true) λx16=>(Rs.bind (Rs.ok a14) λx17=>(chk (g12.length<sizeLine) ((λa18=>(Rs.ok (a18))) (Q1 g12 x17 x16))))))) λg20=>(Rs.ok (g20)))))) λg23=>(Rs.ok g23))))
noncomputable def Y3 (a_0:(List (List Int)))(a_1:(List (Int×Int)))(a_2:(List (Int×Bool))):Rs (Option (List (Str ⊕ Int))):=(Rs.bind (Rs.bind (Rs.bind (Rs.ok a_1) λx7=>(DQ x7 (λa5=>(Rs.bind (Rs.bind (Rs.ok a5) λx8=>(Rs.ok x8.1)) λx9=>(Rs.bind (Rs.ok true) λx10=>(Rs.ok (x9,x10))))))) λx3=>(Rs.ok (GY [] x3))) λa1=>(Rs.bind (Rs.ok []) λa11=>(Rs.bind (Rs.bind (Rs.ok a_0) λx14=>(Rs.ok (Vz x14))) λx64=>(Rs.bind (forC x64 (a11) (λg17 a19=>(Rs.bind (Rs.bind (Rs.ok a19.2) λx21=>(Rs.ok (Vz x21))) λx61=>(Rs.bind (forC x61 (g17) (λg24 a26=>(Rs.bind (orR (Rs.bind (Rs.ok a26.2) λx30=>(Rs.bind (Rs.ok g24) λx31=>(Rs.ok (Yw x31 x30).isSome))) (Rs.bind (Rs.bind (Rs.ok a26.2) λx32=>(Rs.ok (-x32))) λx33=>(Rs.bind (Rs.ok a_2) λx34=>(Rs.ok (!(Yw x34 x33).isSome))))) λa28=>(Rs.bind (orR (Rs.bind (Rs.ok a26.2) λx35=>(Rs.bind (Rs.ok (0:Int)) λx36=>(Rs.ok (decide (x35=x36))))) (orR (Rs.ok a28) (Rs.bind (Rs.bind (Rs.ok a26.2) λx37=>(Rs.ok (x37.natAbs:Int))) λx38=>(Rs.bind (Rs.ok a1) λx39=>(Rs.ok (!(Yw x39 x38).isSome)))))) λx40=>(if x40=true then(Rs.bind (Rs.bind (Rs.bind ((Rs.bind (Rs.bind (Rs.ok ("walk":Str)) λx47=>(Rs.ok (Sum.inl x47))) λx48=>(Rs.bind (Rs.bind (Rs.bind (Rs.ok a19.1) λx44=>(Rs.ok (Sum.inr x44))) λx45=>(Rs.bind (Rs.bind (Rs.bind (Rs.ok a26.1) λx41=>(Rs.ok (Sum.inr x41))) λx42=>(Rs.bind (Rs.ok []) λx43=>(Rs.ok (x42::x43)))) λx46=>(Rs.ok (x45::x46)))) λx49=>(Rs.ok (x48::x49)))):Rs (List (Str ⊕ Int))) λx50=>(chk (x50.length<=sizeLine) (Rs.ok x50))) λx51=>(Rs.ok (some x51))) λx57=>(Rs.ok (Ctl.ret x57))) else(Rs.bind (Rs.ok true) λx52=>(Rs.bind (Rs.ok a26.2) λx53=>(chk (g24.length<sizeLine) ((λa54=>(Rs.bind (Rs.ok (a54)) λx56=>(Rs.ok (Ctl.nx x56)))) (Q1 g24 x53 x52)))))))))) (Qp λg58=>(Rs.bind (Rs.ok (g58)) λx60=>(Rs.ok (Ctl.nx x60)))))))) (Q2 λg62=>(Rs.ok none))))))
noncomputable def YY (a_0:(List (Int×Int)))(a_1:(List (Int×Bool))):Rs (Option (List (Str ⊕ Int))):=(Rs.bind (Rs.ok (0:Int)) λa1=>(Rs.bind (Rs.bind (Rs.ok a_0) λx3=>(Rs.ok (Vz x3))) λx39=>(Rs.bind (forC x39 (a1) (λg6 a8=>(Rs.bind (orR (Rs.bind (Rs.bind (Rs.ok a8.2) λx10=>(Rs.ok x10.1)) λx11=>(Rs.bind (Rs.ok g6) λx12=>(Rs.ok (decide (x11<=x12))))) (orR (Rs.bind (Rs.bind (Rs.ok a8.2) λx13=>(Rs.ok x13.2)) λx17=>(Rs.bind (Rs.bind (Rs.bind (Rs.ok (1:Int)) λx15=>(Rs.bind (Rs.bind (Rs.ok (1:Int)) λx14=>(Rs.ok (-x14))) λx16=>(Rs.ok (x15,x16)))) λx19=>(Rs.ok [x19.1,x19.2])) λx18=>(Rs.ok (!(decide (x17∈x18)))))) (Rs.bind (Rs.bind (Rs.ok a8.2) λx20=>(Rs.ok x20.1)) λx21=>(Rs.bind (Rs.ok a_1) λx22=>(Rs.ok (!(Yw x22 x21).isSome)))))) λx23=>(if x23=true then(Rs.bind (Rs.bind (Rs.bind ((Rs.bind (Rs.bind (Rs.ok ("sign":Str)) λx27=>(Rs.ok (Sum.inl x27))) λx28=>(Rs.bind (Rs.bind (Rs.bind (Rs.ok a8.1) λx24=>(Rs.ok (Sum.inr x24))) λx25=>(Rs.bind (Rs.ok []) λx26=>(Rs.ok (x25::x26)))) λx29=>(Rs.ok (x28::x29)))):Rs (List (Str ⊕ Int))) λx30=>(chk (x30.length<=sizeLine) (Rs.ok x30))) λx31=>(Rs.ok (some x31))) λx36=>(Rs.ok (Ctl.ret x36))) else(Rs.bind (Rs.bind (Rs.ok a8.2) λx34=>(Rs.ok x34.1)) λa32=>(Rs.bind (Rs.ok (a32)) λx35=>(Rs.ok (Ctl.nx x35)))))))) (Q2 λg37=>(Rs.ok none)))))
noncomputable def YF (a_0:(List (List Int)))(a_1:(List (Int×Int))):Rs (Option (List (Str ⊕ Int))):=(Rs.bind (Rs.bind (Rs.bind (Rs.ok a_1) λx1=>(Rs.ok (x1.length:Int))) λx2=>(Rs.bind (Rs.ok (40:Int)) λx3=>(Rs.ok (decide (x3<x2))))) λx4=>(if x4=true then(Rs.bind (Rs.bind ((Rs.bind (Rs.bind (Rs.ok ("many":Str)) λx9=>(Rs.ok (Sum.inl x9))) λx10=>(Rs.bind (Rs.bind (Rs.bind (Rs.bind (Rs.ok a_1) λx5=>(Rs.ok (x5.length:Int))) λx6=>(Rs.ok (Sum.inr x6))) λx7=>(Rs.bind (Rs.ok []) λx8=>(Rs.ok (x7::x8)))) λx11=>(Rs.ok (x10::x11)))):Rs (List (Str ⊕ Int))) λx12=>(chk (x12.length<=sizeLine) (Rs.ok x12))) λx13=>(Rs.ok (some x13))) else(Rs.bind (Rs.bind (Rs.bind (Rs.ok a_0) λx14=>(Rs.ok (x14.length:Int))) λx15=>(Rs.bind (Rs.ok (12:Int)) λx16=>(Rs.ok (decide (x16<x15))))) λx17=>(if x17=true then(Rs.bind (Rs.bind ((Rs.bind (Rs.bind (Rs.ok ("many":Str)) λx22=>(Rs.ok (Sum.inl x22))) λx23=>(Rs.bind (Rs.bind (Rs.bind (Rs.bind (Rs.ok a_0) λx18=>(Rs.ok (x18.length:Int))) λx19=>(Rs.ok (Sum.inr x19))) λx20=>(Rs.bind (Rs.ok []) λx21=>(Rs.ok (x20::x21)))) λx24=>(Rs.ok (x23::x24)))):Rs (List (Str ⊕ Int))) λx25=>(chk (x25.length<=sizeLine) (Rs.ok x25))) λx26=>(Rs.ok (some x26))) else(Rs.ok none)))))
noncomputable def Za (a_0:((List (List Int))×(List (Int×Int)))):Rs (Option (List (Str ⊕ Int))):=(Rs.bind (Rs.bind (Rs.ok a_0) λx3=>(Rs.ok x3.1)) λa1=>(Rs.bind (Rs.bind (Rs.ok a_0) λx6=>(Rs.ok x6.2)) λa4=>(Rs.bind (Rs.bind (Rs.ok a1) λx10=>(noE (YK x10))) λa7=>(Rs.bind (Rs.bind (Rs.ok a1) λx14=>(Rs.bind (Rs.ok a4) λx15=>(Rs.bind (Rs.ok a7) λx16=>(noE (Y3 x14 x15 x16))))) λa11=>(Rs.bind (Rs.bind (Rs.bind (Rs.ok a11) λx17=>(Rs.ok x17.isNone)) λx18=>(if x18=true then(Rs.bind (Rs.bind (Rs.ok a4) λx24=>(Rs.bind (Rs.ok a7) λx25=>(noE (YY x24 x25)))) λa21=>(Rs.ok (a21))) else(Rs.ok (a11)))) λg27=>(Rs.bind (Rs.bind (Rs.bind (Rs.ok g27) λx28=>(Rs.ok x28.isNone)) λx29=>(if x29=true then(Rs.bind (Rs.bind (Rs.ok a1) λx35=>(Rs.bind (Rs.ok a4) λx36=>(noE (YF x35 x36)))) λa32=>(Rs.ok (a32))) else(Rs.ok (g27)))) λg38=>(Rs.ok g38)))))))
noncomputable def Ye (a_0:((List (List Int))×(List (Int×Int)))):Rs ((List (List Int))×(List (Int×Int))):=(Rs.bind (Rs.bind (Rs.ok a_0) λx4=>(noE (Za x4))) λa1=>(Rs.bind (Rs.bind (Rs.ok a1) λx5=>(Rs.ok x5.isSome)) λx6=>(if x6=true then(Rs.bind (Rs.bind (Rs.ok a1) BQ) λx7=>(Rs.bind (Bi x7) λp=>(Rs.err ⟨"NotADrawing",p⟩))) else(Rs.bind (Rs.bind (Rs.bind (Rs.ok a_0) λx8=>(Rs.ok x8.1)) λx12=>(DQ x12 (λa10=>(Rs.bind (Rs.ok a10) λx13=>(Rs.ok x13))))) λx16=>(Rs.bind (Rs.bind (Rs.bind (Rs.ok a_0) λx15=>(Rs.ok x15.2)) λx14=>(Rs.ok x14)) λx17=>(Rs.ok (x16,x17)))))))
noncomputable def JV (a_0:(List Int))(a_1:Int):Rs Int:=(Rs.bind (Rs.bind (Rs.ok a_1) λx2=>(Rs.bind (Rs.bind (Rs.ok a_0) λx1=>(Rs.ok (x1.length:Int))) λx3=>(Rs.ok (decide (x2<x3))))) λx4=>(if x4=true then(Rs.bind (Rs.ok a_0) λx5=>(Rs.bind (Rs.ok a_1) λx6=>(atR x5 x6))) else(Rs.bind (Rs.ok (5:Int)) λa7=>(Rs.bind (Rs.bind (Rs.ok a_0) λx10=>(Rs.bind (Rs.ok none) λx11=>(Rs.bind (Rs.bind (Rs.ok (63:Int)) λx9=>(Rs.ok (some x9))) λx12=>(Rs.ok (Uc x10 x11 x12))))) λx39=>(Rs.bind (forN x39 (a7) (λg15 a17=>(Rs.bind (Rs.bind (Rs.bind (Rs.bind (Rs.bind (Rs.ok g15) λx21=>(Rs.bind (Rs.ok (48271:Int)) λx22=>(QE x21 x22))) λx25=>(Rs.bind (Rs.bind (Rs.ok a17) λx23=>(Rs.bind (Rs.ok (1000003:Int)) λx24=>(Qd x23 x24))) λx26=>(Rs.ok (x25+x26)))) λx27=>(Rs.bind (Rs.ok (1:Int)) λx28=>(Rs.ok (x27+x28)))) λx29=>(Rs.bind (Rs.ok (2147483647:Int)) λx30=>(Qd x29 x30))) λa19=>(Rs.ok (a19))))) λg31=>(Rs.bind (Rs.bind (Rs.ok g31) λx35=>(Rs.bind (Rs.bind (Rs.ok (7919:Int)) λx33=>(Rs.bind (Rs.ok a_1) λx34=>(QE x33 x34))) λx36=>(Rs.ok (x35+x36)))) λx37=>(Rs.bind (Rs.ok (1000003:Int)) λx38=>(Qd x37 x38))))))))
noncomputable def Ks (a_0:Int)(a_1:Int):Rs Int:=(Rs.bind (Rs.bind (Rs.bind (Rs.bind (Rs.bind (Rs.bind (Rs.ok a_0) λx3=>(Rs.bind (Rs.ok (2147483629:Int)) λx4=>(Qd x3 x4))) λx7=>(Rs.bind (Rs.bind (Rs.ok (1013:Int)) λx5=>(Rs.bind (Rs.ok a_1) λx6=>(QE x5 x6))) λx8=>(Rs.ok (x7+x8)))) λx9=>(Rs.bind (Rs.ok (7919:Int)) λx10=>(Rs.ok (x9+x10)))) λx11=>(Rs.bind (Rs.ok (3:Int)) λx12=>(DC x11 x12))) λx13=>(Rs.bind (Rs.ok (2147483647:Int)) λx14=>(Qd x13 x14))) λa1=>(Rs.bind (Rs.bind (Rs.bind (Rs.bind (Rs.bind (Rs.ok a1) λx17=>(Rs.bind (Rs.ok (40699:Int)) λx18=>(QE x17 x18))) λx23=>(Rs.bind (Rs.bind (Rs.bind (Rs.ok (3793:Int)) λx19=>(Rs.bind (Rs.ok a_1) λx20=>(QE x19 x20))) λx21=>(Rs.bind (Rs.ok a_1) λx22=>(QE x21 x22))) λx24=>(Rs.ok (x23+x24)))) λx25=>(Rs.bind (Rs.ok (11:Int)) λx26=>(Rs.ok (x25+x26)))) λx27=>(Rs.bind (Rs.ok (2147483399:Int)) λx28=>(Qd x27 x28))) λa15=>(Rs.bind (Rs.ok a15) λx29=>(Rs.bind (Rs.ok (101:Int)) λx30=>(Ii x29 x30)))))
noncomputable def Uh (a_0:(List Int))(a_1:Int)(a_2:(List Int)):Rs (List Int):=(Rs.bind (Rs.bind (Rs.ok a_0) λx4=>(Rs.bind (Rs.ok a_1) λx5=>(noE (JV x4 x5)))) λa1=>(Rs.bind (Rs.ok a1) λa6=>(Rs.bind (Rs.ok []) λa8=>(Rs.bind (Rs.bind (Rs.bind (Rs.ok a_2) λx11=>(Rs.ok (x11.length:Int))) λx12=>(UD 0 x12)) λx81=>(Rs.bind (forN x81 (a8,a6) (λg15 a17=>(Rs.bind (Rs.bind (Rs.bind (Rs.ok a1) λx21=>(Rs.bind (Rs.bind (Rs.ok (10:Int)) λx19=>(Rs.bind (Rs.ok (18:Int)) λx20=>(DC x19 x20))) λx22=>(Rs.ok (decide (x21<x22))))) λx23=>(if x23=true then(Rs.bind (Rs.bind (Rs.bind (Rs.ok a1) λx27=>(Rs.bind (Rs.ok a17) λx28=>(noE (Ks x27 x28)))) λx31=>(Rs.bind (Rs.bind (Rs.ok a_2) λx29=>(Rs.bind (Rs.ok a17) λx30=>(atR x29 x30))) λx32=>(Qd x31 x32))) λa33=>(chk (g15.1.length<sizeLine) ((λa35=>(Rs.ok (a35,g15.2))) (g15.1++[a33])))) else(Rs.bind (Rs.bind (Rs.bind (Rs.ok g15.2) λx36=>(Rs.bind (Rs.ok (0:Int)) λx37=>(Rs.ok (decide (x37<x36))))) λx38=>(if x38=true then(Rs.bind (Rs.bind (Rs.ok g15.2) λx43=>(Rs.bind (Rs.bind (Rs.ok a_2) λx41=>(Rs.bind (Rs.ok a17) λx42=>(atR x41 x42))) λx44=>(Qd x43 x44))) λa45=>(chk (g15.1.length<sizeLine) ((λa47=>(Rs.bind (Rs.bind (Rs.ok g15.2) λx52=>(Rs.bind (Rs.bind (Rs.ok a_2) λx50=>(Rs.bind (Rs.ok a17) λx51=>(atR x50 x51))) λx53=>(Ii x52 x53))) λa48=>(Rs.ok (a48,a47)))) (g15.1++[a45])))) else(Rs.bind (Rs.bind (Rs.ok a_0) λx63=>(Rs.bind (Rs.bind (Rs.bind (Rs.bind (Rs.ok a_1) λx57=>(Rs.bind (Rs.ok (1:Int)) λx58=>(Rs.ok (x57+x58)))) λx59=>(Rs.bind (Rs.ok a17) λx60=>(Rs.ok (x59+x60)))) λx61=>(Rs.bind (Rs.ok (63:Int)) λx62=>(Qd x61 x62))) λx64=>(noE (JV x63 x64)))) λa54=>(Rs.bind (Rs.bind (Rs.bind (Rs.ok a54) λx66=>(Rs.bind (Rs.ok a17) λx67=>(noE (Ks x66 x67)))) λx70=>(Rs.bind (Rs.bind (Rs.ok a_2) λx68=>(Rs.bind (Rs.ok a17) λx69=>(atR x68 x69))) λx71=>(Qd x70 x71))) λa72=>(chk (g15.1.length<sizeLine) ((λa74=>(Rs.ok (g15.2,a74))) (g15.1++[a72]))))))) λg76=>(Rs.ok (g76.2,g76.1))))) λg78=>(Rs.ok (g78.1,g78.2))))) λg79=>(Rs.ok g79.1))))))
noncomputable def Q3 (a_0:(List Int))(a_1:(List Int)):Rs (List Int):=(Rs.bind (Rs.bind (Rs.ok a_0) λx4=>(Rs.ok x4)) λa1=>(Rs.bind (Rs.ok []) λa5=>(Rs.bind (Rs.bind (Rs.bind (Rs.ok a_0) λx8=>(Rs.ok (x8.length:Int))) λx9=>(UD 0 x9)) λx34=>(Rs.bind (forN x34 (a5,a1) (λg12 a14=>(Rs.bind (Rs.bind (Rs.bind (Rs.ok a_1) λx20=>(Rs.bind (Rs.bind (Rs.bind (Rs.ok (8:Int)) λx16=>(Rs.bind (Rs.ok a14) λx17=>(QE x16 x17))) λx18=>(Rs.bind (Rs.ok (9:Int)) λx19=>(Rs.ok (x18+x19)))) λx21=>(atR x20 x21))) λx23=>(Rs.bind (Rs.bind (Rs.ok g12.2) λx22=>(Rs.ok (x22.length:Int))) λx24=>(Qd x23 x24))) λx30=>(Rs.bind (VQ g12.2 x30) λp31=>(chk (g12.1.length<sizeLine) ((λa26 a27=>(Rs.ok (a27,a26))) p31.2 (g12.1++[p31.1]))))))) λg32=>(Rs.ok g32.1)))))
noncomputable def G4 (a_0:(List Int))(a_1:(List Int))(a_2:Int):Rs (List (List Int)):=(Rs.bind (Rs.ok []) λa1=>(Rs.bind (Rs.ok a_0) λx70=>(Rs.bind (forN x70 (a1) (λg6 a8=>(Rs.bind (Rs.bind (Rs.bind (Rs.ok a8) λx14=>(Rs.bind (Rs.bind (Rs.bind (Rs.ok a8) λx11=>(Rs.ok (-x11))) λx12=>(Rs.bind (Rs.ok []) λx13=>(Rs.ok (x12::x13)))) λx15=>(Rs.ok (x14::x15)))) λx10=>(chk (x10.length<=sizeLine) (Rs.ok x10))) λa16=>(chk (g6.length+a16.length<=sizeLine) ((λa18=>(Rs.ok (a18))) (g6++a16)))))) λg19=>(Rs.bind (Rs.bind (Rs.bind (Rs.ok a_2) λx24=>(UD 0 x24)) λx28=>(DQ x28 (λa26=>(Rs.ok [])))) λa21=>(Rs.bind (Rs.bind (Rs.bind (Rs.ok (2:Int)) λx30=>(Rs.bind (Rs.bind (Rs.ok a_0) λx29=>(Rs.ok (x29.length:Int))) λx31=>(QE x30 x31))) λx32=>(UD 0 x32)) λx69=>(Rs.bind (forN x69 (g19,a21) (λg35 a37=>(Rs.bind (Rs.bind (Rs.bind (Rs.ok (4:Int)) λx41=>(Rs.bind (Rs.ok a37) λx42=>(QE x41 x42))) λx43=>(Rs.bind (Rs.ok (5:Int)) λx44=>(Rs.ok (x43+x44)))) λa39=>(Rs.bind (Rs.bind (Rs.bind (Rs.ok a_1) λx45=>(Rs.bind (Rs.ok a39) λx46=>(atR x45 x46))) λx48=>(Rs.bind (Rs.bind (Rs.ok g35.1) λx47=>(Rs.ok (x47.length:Int))) λx49=>(Qd x48 x49))) λx54=>(Rs.bind (VQ g35.1 x54) (λp55=>(λa50 a51=>(Rs.bind (Rs.bind (Rs.bind (Rs.ok a_1) λx58=>(Rs.bind (Rs.bind (Rs.ok a39) λx56=>(Rs.bind (Rs.ok (1:Int)) λx57=>(Rs.ok (x56+x57)))) λx59=>(atR x58 x59))) λx60=>(Rs.bind (Rs.ok a_2) λx61=>(Qd x60 x61))) λx63=>(Rs.bind (atR g35.2 x63) λx64=>(Rs.bind (Rs.ok a50) λx62=>(chk (x64.length<sizeLine) (Rs.bind (Qg g35.2 x63 (x64++[x62])) λa65=>(Rs.ok (a51,a65)))))))) p55.1 p55.2)))))) λg67=>(Rs.ok g67.2)))))))
noncomputable def ZL (a_0:(List Int))(a_1:(List (Int×Int)))(a_2:(List Int))(a_3:Int):Rs (List (List Int)):=(Rs.bind (Rs.bind (Rs.bind (Rs.bind (Rs.ok false) λx7=>(Rs.bind (Rs.ok []) λx8=>(Rs.ok (x7::x8)))) λx6=>(chk (x6.length<=sizeLine) (Rs.ok x6))) λx4=>(Rs.bind (Rs.ok a_3) λx5=>(Ca x4 x5))) λa1=>(Rs.bind (Rs.ok []) λa9=>(Rs.bind (Rs.bind (Rs.ok a_3) λx12=>(UD 0 x12)) λx118=>(Rs.bind (forN x118 (a1,a9) (λg15 a17=>(Rs.bind (Rs.bind (Rs.bind (Rs.bind (Rs.ok g15.1) λx19=>(Rs.bind (Rs.ok a17) λx20=>(atR x19 x20))) λx21=>(Rs.ok (!x21))) λx22=>(if x22=true then(Rs.bind (Rs.ok []) λa25=>(Rs.bind (Rs.ok a17) λa28=>(Rs.bind (JN (a_3.natAbs+2) (g15.1,a28,a25) (λg32=>(Rs.bind (Rs.bind (Rs.ok g32.1) λx34=>(Rs.bind (Rs.ok g32.2.1) λx35=>(atR x34 x35))) λx36=>(Rs.ok (!x36)))) (λg32=>(Rs.bind (Rs.ok true) λx37=>(Rs.bind (Rs.ok g32.2.1) λx38=>(Rs.bind (Qg g32.1 x38 x37) λa39=>(Rs.bind (Rs.bind (Rs.bind (Rs.ok a_0) λx41=>(Rs.ok (x41.length:Int))) λx42=>(UD 0 x42)) λx108=>(Rs.bind (forN x108 (g32.2.1,g32.2.2) (λg45 a47=>(Rs.bind (Rs.bind (Rs.bind (Rs.ok a_2) λx55=>(Rs.bind (Rs.bind (Rs.bind (Rs.ok (8:Int)) λx51=>(Rs.bind (Rs.ok a47) λx52=>(QE x51 x52))) λx53=>(Rs.bind (Rs.ok (10:Int)) λx54=>(Rs.ok (x53+x54)))) λx56=>(atR x55 x56))) λx59=>(Rs.bind (Rs.bind (Rs.ok a_3) λx57=>(Rs.bind (Rs.ok (1:Int)) λx58=>(Rs.ok (x57-x58)))) λx60=>(Qd x59 x60))) λa49=>(Rs.bind (Rs.bind (Rs.bind (Rs.ok g45.1) λx61=>(Rs.bind (Rs.ok a49) λx62=>(Rs.ok (decide (x61=x62))))) λx63=>(if x63=true then(Rs.bind (Rs.bind (Rs.bind (Rs.ok a_0) λx66=>(Rs.bind (Rs.ok a47) λx67=>(atR x66 x67))) λx72=>(Rs.bind (Rs.bind (Rs.ok a_1) λx70=>(Rs.bind (Rs.bind (Rs.ok a_0) λx68=>(Rs.bind (Rs.ok a47) λx69=>(atR x68 x69))) λx71=>(Vx x70 x71))) λx73=>(QE x72 x73))) λa74=>(chk (g45.2.length<sizeLine) ((λa76=>(Rs.bind (Rs.bind (Rs.ok a49) λx79=>(Rs.bind (Rs.ok (1:Int)) λx80=>(Rs.ok (x79+x80)))) λa77=>(Rs.ok (a77,a76)))) (g45.2++[a74])))) else(Rs.bind (Rs.bind (Rs.bind (Rs.ok g45.1) λx83=>(Rs.bind (Rs.bind (Rs.ok a49) λx81=>(Rs.bind (Rs.ok (1:Int)) λx82=>(Rs.ok (x81+x82)))) λx84=>(Rs.ok (decide (x83=x84))))) λx85=>(if x85=true then(Rs.bind (Rs.bind (Rs.bind (Rs.bind (Rs.ok a_0) λx88=>(Rs.bind (Rs.ok a47) λx89=>(atR x88 x89))) λx90=>(Rs.ok (-x90))) λx95=>(Rs.bind (Rs.bind (Rs.ok a_1) λx93=>(Rs.bind (Rs.bind (Rs.ok a_0) λx91=>(Rs.bind (Rs.ok a47) λx92=>(atR x91 x92))) λx94=>(Vx x93 x94))) λx96=>(QE x95 x96))) λa97=>(chk (g45.2.length<sizeLine) ((λa99=>(Rs.bind (Rs.ok a49) λa100=>(Rs.ok (a100,a99)))) (g45.2++[a97])))) else(Rs.ok (g45.1,g45.2)))) λg103=>(Rs.ok (g103.1,g103.2))))) λg105=>(Rs.ok (g105.1,g105.2)))))) λg106=>(Rs.ok (a39,g106.1,g106.2))))))))) λg109=>(Rs.bind (Rs.ok g109.2.2) λa111=>(chk (g15.2.length<sizeLine) ((λa113=>(Rs.ok (g109.1,a113))) (g15.2++[a111]))))))) else(Rs.ok (g15.1,g15.2)))) λg115=>(Rs.ok (g115.1,g115.2))))) λg116=>(Rs.ok g116.2)))))
noncomputable def Jk (a_0:(List Int))(a_1:Int)(a_2:Int):Rs ((List (List Int))×(List (Int×Int))):=(Rs.bind (Rs.bind (Rs.bind (Rs.bind (Rs.ok a_2) λx4=>(Rs.bind (Rs.ok (1:Int)) λx5=>(Rs.ok (x4+x5)))) λx14=>(Rs.bind (Rs.bind (Rs.ok (5:Int)) λx12=>(Rs.bind (Rs.bind (Rs.ok (4:Int)) λx10=>(Rs.bind (Rs.bind (Rs.ok (3:Int)) λx8=>(Rs.bind (Rs.bind (Rs.ok (3:Int)) λx6=>(Rs.bind (Rs.ok []) λx7=>(Rs.ok (x6::x7)))) λx9=>(Rs.ok (x8::x9)))) λx11=>(Rs.ok (x10::x11)))) λx13=>(Rs.ok (x12::x13)))) λx15=>(Rs.ok (x14::x15)))) λx3=>(chk (x3.length<=sizeLine) (Rs.ok x3))) λa1=>(Rs.bind (Rs.bind (Rs.ok a_0) λx34=>(Rs.bind (Rs.ok a_1) λx35=>(Rs.bind (Rs.bind (Rs.ok a1) λx19=>(Rs.bind (Rs.bind (Rs.bind (Rs.bind (Rs.ok (80:Int)) λx30=>(Rs.bind (Rs.bind (Rs.ok (5:Int)) λx28=>(Rs.bind (Rs.bind (Rs.ok (2:Int)) λx26=>(Rs.bind (Rs.bind (Rs.ok (3:Int)) λx24=>(Rs.bind (Rs.ok []) λx25=>(Rs.ok (x24::x25)))) λx27=>(Rs.ok (x26::x27)))) λx29=>(Rs.ok (x28::x29)))) λx31=>(Rs.ok (x30::x31)))) λx23=>(chk (x23.length<=sizeLine) (Rs.ok x23))) λx21=>(Rs.bind (Rs.bind (Rs.ok (2:Int)) λx32=>(Rs.bind (Rs.ok a_2) λx33=>(QE x32 x33))) λx22=>(Ca x21 x22))) λx20=>(G7 x19 x20))) λx36=>(noE (Uh x34 x35 x36))))) λa16=>(Rs.bind (Rs.ok []) λa37=>(Rs.bind (Rs.ok []) λa40=>(Rs.bind (Rs.ok (0:Int)) λa43=>(Rs.bind (Rs.bind (Rs.bind (Rs.ok a16) λx45=>(Rs.bind (Rs.ok (0:Int)) λx46=>(atR x45 x46))) λx47=>(UD 0 x47)) λx152=>(Rs.bind (forN x152 (a43,a40,a37) (λg50 a52=>(Rs.bind (Rs.bind (Rs.bind (Rs.ok a16) λx60=>(Rs.bind (Rs.bind (Rs.bind (Rs.ok (8:Int)) λx56=>(Rs.bind (Rs.ok a52) λx57=>(QE x56 x57))) λx58=>(Rs.bind (Rs.ok (8:Int)) λx59=>(Rs.ok (x58+x59)))) λx61=>(atR x60 x61))) λx75=>(Rs.bind (Rs.bind (Rs.bind (Rs.bind (Rs.ok (0:Int)) λx69=>(Rs.bind (Rs.bind (Rs.ok (1:Int)) λx67=>(Rs.bind (Rs.bind (Rs.bind (Rs.ok (10:Int)) λx63=>(Rs.bind (Rs.ok (58:Int)) λx64=>(DC x63 x64))) λx65=>(Rs.bind (Rs.ok []) λx66=>(Rs.ok (x65::x66)))) λx68=>(Rs.ok (x67::x68)))) λx70=>(Rs.ok (x69::x70)))) λx62=>(chk (x62.length<=sizeLine) (Rs.ok x62))) λx73=>(Rs.bind (Rs.bind (Rs.ok a16) λx71=>(Rs.bind (Rs.ok (3:Int)) λx72=>(atR x71 x72))) λx74=>(atR x73 x74))) λx76=>(QE x75 x76))) λa54=>(Rs.bind (Rs.bind (Rs.bind (Rs.ok g50.1) λx79=>(Rs.bind (Rs.ok (1:Int)) λx80=>(Rs.ok (x79+x80)))) λx81=>(Rs.bind (Rs.ok a54) λx82=>(Rs.ok (x81+x82)))) λa77=>(Rs.bind (Rs.ok a77) λa83=>(chk (g50.2.2.length<sizeLine) ((λa85=>(Rs.bind (Rs.bind (Rs.bind (Rs.ok (2:Int)) λx92=>(Rs.bind (Rs.bind (Rs.ok a16) λx90=>(Rs.bind (Rs.bind (Rs.bind (Rs.ok (8:Int)) λx86=>(Rs.bind (Rs.ok a52) λx87=>(QE x86 x87))) λx88=>(Rs.bind (Rs.ok (7:Int)) λx89=>(Rs.ok (x88+x89)))) λx91=>(atR x90 x91))) λx93=>(QE x92 x93))) λx94=>(Rs.bind (Rs.ok (1:Int)) λx95=>(Rs.ok (x94-x95)))) λx96=>(Rs.bind (Rs.ok a77) λx97=>(chk (g50.2.1.length<sizeLine) ((λa98=>(Rs.ok (a77,a98,a85))) (Q1 g50.2.1 x97 x96)))))) (g50.2.2++[a83])))))))) λg100=>(Rs.bind (Rs.bind (Rs.bind (Rs.bind (Rs.ok a16) λx102=>(Rs.bind (Rs.ok (2:Int)) λx103=>(atR x102 x103))) λx104=>(Rs.bind (Rs.ok (2:Int)) λx105=>(Rs.ok (decide (x104<x105))))) λx106=>(if x106=true then(Rs.bind (Rs.bind (Rs.bind (Rs.ok g100.2.2) λx114=>(Rs.bind (Rs.ok a16) λx115=>(noE (Q3 x114 x115)))) λx120=>(Rs.bind (Rs.ok g100.2.1) λx121=>(Rs.bind (Rs.ok a16) λx122=>(Rs.bind (Rs.bind (Rs.ok (2:Int)) λx118=>(Rs.bind (Rs.bind (Rs.ok a16) λx116=>(Rs.bind (Rs.ok (4:Int)) λx117=>(atR x116 x117))) λx119=>(Rs.ok (x118+x119)))) λx123=>(noE (ZL x120 x121 x122 x123)))))) λa109=>(Rs.ok (a109))) else(Rs.bind (Rs.bind (Rs.bind (Rs.ok a16) λx126=>(Rs.bind (Rs.ok (1:Int)) λx127=>(atR x126 x127))) λx131=>(Rs.bind (Rs.bind (Rs.bind (Rs.ok g100.2.2) λx128=>(Rs.ok (x128.length:Int))) λx129=>(Rs.bind (Rs.ok (1:Int)) λx130=>(Rs.ok (min x129 x130)))) λx132=>(Rs.ok (max x131 x132)))) λa124=>(Rs.bind (Rs.bind (Rs.ok g100.2.2) λx137=>(Rs.bind (Rs.ok a16) λx138=>(Rs.bind (Rs.ok a124) λx139=>(noE (G4 x137 x138 x139))))) λa133=>(Rs.ok (a133)))))) λg141=>(Rs.bind (Rs.ok g141) λx150=>(Rs.bind (Rs.bind (Rs.ok g100.2.2) λx145=>(DQ x145 (λa143=>(Rs.bind (Rs.ok a143) λx148=>(Rs.bind (Rs.bind (Rs.ok g100.2.1) λx146=>(Rs.bind (Rs.ok a143) λx147=>(Vx x146 x147))) λx149=>(Rs.ok (x148,x149))))))) λx151=>(Rs.ok (x150,x151))))))))))))
noncomputable def YV (a_0:((List (List Int))×(List (Int×Int)))):Rs ((List (List Int))×(List (Int×Int))):=(Rs.bind (Rs.bind (Rs.bind (Rs.ok a_0) λx1=>(Rs.ok x1.1)) λx5=>(DQ x5 (λa3=>(Rs.bind (Rs.ok a3) λx6=>(Rs.ok x6))))) λx9=>(Rs.bind (Rs.bind (Rs.bind (Rs.ok a_0) λx8=>(Rs.ok x8.2)) λx7=>(Rs.ok x7)) λx10=>(Rs.ok (x9,x10))))
noncomputable def Y5 (a_0:Int):Rs Bool:=(Kg (Rs.bind (Rs.ok a_0) λx1=>(Rs.ok true)) (Rs.bind (Rs.bind (Rs.ok a_0) λx2=>(Rs.ok false)) λx3=>(Rs.ok (!x3))))
noncomputable def Y2 (a_0:((List (List Int))×(List (Int×Int)))):Rs Bool:=(Rs.bind (orR (Rs.bind (Rs.bind (Rs.ok a_0) λx1=>(Rs.ok true)) λx2=>(Rs.ok (!x2))) (Rs.bind (Rs.bind (Rs.ok a_0) λ_=>(Rs.ok (2:Int))) λx4=>(Rs.bind (Rs.ok (2:Int)) λx5=>(Rs.ok (!(decide (x4=x5))))))) λx6=>(if x6=true then(Rs.ok false) else(Rs.bind (orR (Rs.bind (Rs.bind (Rs.bind (Rs.ok a_0) λx7=>(Rs.ok x7.1)) λx8=>(Rs.ok true)) λx9=>(Rs.ok (!x9))) (Rs.bind (Rs.bind (Rs.bind (Rs.ok a_0) λx10=>(Rs.ok x10.2)) λx11=>(Rs.ok true)) λx12=>(Rs.ok (!x12)))) λx13=>(if x13=true then(Rs.ok false) else(Rs.bind (Rs.bind (Rs.ok a_0) λx14=>(Rs.ok x14.1)) λx72=>(Rs.bind (forC x72 () (λg17 a19=>(Rs.bind (Rs.bind (Rs.bind (Rs.ok a19) λx21=>(Rs.ok true)) λx22=>(Rs.ok (!x22))) λx23=>(if x23=true then(Rs.bind (Rs.ok false) λx40=>(Rs.ok (Ctl.ret x40))) else(Rs.bind (Rs.ok a19) λx39=>(Rs.bind (forC x39 () (λg26 a28=>(Rs.bind (Rs.bind (Rs.bind (Rs.ok a28) λx31=>(noE (Y5 x31))) λx32=>(Rs.ok (!x32))) λx33=>(if x33=true then(Rs.bind (Rs.ok false) λx35=>(Rs.ok (Ctl.ret x35))) else(Rs.bind (Rs.ok ()) λx34=>(Rs.ok (Ctl.nx x34))))))) (Qp λg36=>(Rs.bind (Rs.ok ()) λx38=>(Rs.ok (Ctl.nx x38)))))))))) (Q2 λg41=>(Rs.bind (Rs.bind (Rs.ok a_0) λx43=>(Rs.ok x43.2)) λx71=>(Rs.bind (forC x71 () (λg46 a48=>(Rs.bind (orR (Rs.bind (Rs.bind (Rs.ok a48) λx50=>(Rs.ok true)) λx51=>(Rs.ok (!x51))) (Rs.bind (Rs.bind (Rs.bind (Rs.ok a48) λx53=>(Rs.ok [x53.1,x53.2])) λx52=>(Rs.ok (x52.length:Int))) λx54=>(Rs.bind (Rs.ok (2:Int)) λx55=>(Rs.ok (!(decide (x54=x55))))))) λx56=>(if x56=true then(Rs.bind (Rs.ok false) λx68=>(Rs.ok (Ctl.ret x68))) else(Rs.bind (orR (Rs.bind (Rs.bind (Rs.bind (Rs.ok a48) λx58=>(Rs.ok x58.1)) λx59=>(noE (Y5 x59))) λx60=>(Rs.ok (!x60))) (Rs.bind (Rs.bind (Rs.bind (Rs.ok a48) λx62=>(Rs.ok x62.2)) λx63=>(noE (Y5 x63))) λx64=>(Rs.ok (!x64)))) λx65=>(if x65=true then(Rs.bind (Rs.ok false) λx67=>(Rs.ok (Ctl.ret x67))) else(Rs.bind (Rs.ok ()) λx66=>(Rs.ok (Ctl.nx x66))))))))) (Q2 λg69=>(Rs.ok true)))))))))))
noncomputable def Q9 (a_0:(List Int)):Rs ((List (List Int))×(List (Int×Int))):=(Rs.bind (Rs.bind (Rs.ok (38:Int)) λx5=>(Rs.bind (Rs.bind (Rs.ok a_0) λx3=>(Rs.bind (Rs.ok (0:Int)) λx4=>(atR x3 x4))) λx6=>(Rs.ok (x5+x6)))) λa1=>(Rs.bind (Rs.bind (Rs.ok (1:Int)) λx13=>(Rs.bind (Rs.bind (Rs.bind (Rs.ok a_0) λx9=>(Rs.bind (Rs.ok (1:Int)) λx10=>(atR x9 x10))) λx11=>(Rs.bind (Rs.ok (4:Int)) λx12=>(Qd x11 x12))) λx14=>(Rs.ok (x13+x14)))) λa7=>(Rs.bind (Rs.ok (0:Int)) λa15=>(Rs.bind (Rs.bind (Rs.bind (Rs.bind (Rs.ok a_0) λx17=>(Rs.bind (Rs.ok (2:Int)) λx18=>(atR x17 x18))) λx19=>(Rs.bind (Rs.ok (0:Int)) λx20=>(Rs.ok (decide (x19=x20))))) λx21=>(if x21=true then(Rs.bind (Rs.bind (Rs.ok a_0) λx26=>(Rs.bind (Rs.ok (0:Int)) λx27=>(atR x26 x27))) λa24=>(Rs.ok (a24))) else(Rs.ok (a1)))) λg29=>(Rs.bind (Rs.bind (Rs.bind (Rs.bind (Rs.ok a_0) λx30=>(Rs.bind (Rs.ok (2:Int)) λx31=>(atR x30 x31))) λx32=>(Rs.bind (Rs.ok (2:Int)) λx33=>(Rs.ok (decide (x32<x33))))) λx34=>(if x34=true then(Rs.bind (Rs.bind (Rs.bind (Rs.ok (11:Int)) λx43=>(Rs.bind (Rs.bind (Rs.bind (Rs.ok a_0) λx39=>(Rs.bind (Rs.ok (1:Int)) λx40=>(atR x39 x40))) λx41=>(Rs.bind (Rs.ok (4:Int)) λx42=>(Qd x41 x42))) λx44=>(Rs.ok (x43+x44)))) λx45=>(Rs.bind (Rs.ok a7) λx46=>(Rs.ok (x45-x46)))) λa37=>(Rs.ok (a37))) else(Rs.ok (a15)))) λg48=>(Rs.bind (Rs.bind (Rs.bind (Rs.bind (Rs.ok a7) λx52=>(Rs.bind (Rs.ok g48) λx53=>(Rs.ok (x52+x53)))) λx54=>(UD 0 x54)) λx58=>(DQ x58 (λa56=>(Rs.ok [])))) λa49=>(Rs.bind (Rs.ok []) λa59=>(Rs.bind (Rs.bind (Rs.ok g29) λx62=>(UD 0 x62)) λx107=>(Rs.bind (forN x107 (a49,a59) (λg65 a67=>(Rs.bind (Rs.bind (Rs.ok a67) λx71=>(Rs.bind (Rs.ok a7) λx72=>(Qd x71 x72))) λx74=>(Rs.bind (atR g65.1 x74) λx75=>(Rs.bind (Rs.bind (Rs.ok a67) λx69=>(Rs.bind (Rs.ok (1:Int)) λx70=>(Rs.ok (x69+x70)))) λx73=>(chk (x75.length<sizeLine) (Rs.bind (Qg g65.1 x74 (x75++[x73])) λa76=>(Rs.bind (Rs.bind (Rs.bind (Rs.ok a67) λx81=>(Rs.bind (Rs.ok a67) λx82=>(QE x81 x82))) λx83=>(Rs.bind (Rs.ok a7) λx84=>(Qd x83 x84))) λx86=>(Rs.bind (atR a76 x86) λx87=>(Rs.bind (Rs.bind (Rs.bind (Rs.ok a67) λx78=>(Rs.ok (-x78))) λx79=>(Rs.bind (Rs.ok (1:Int)) λx80=>(Rs.ok (x79-x80)))) λx85=>(chk (x87.length<sizeLine) (Rs.bind (Qg a76 x86 (x87++[x85])) λa88=>(Rs.bind (Rs.bind (Rs.bind (Rs.ok a67) λx90=>(Rs.bind (Rs.ok (1:Int)) λx91=>(Rs.ok (x90+x91)))) λx98=>(Rs.bind (Rs.bind (Rs.ok (1:Int)) λx96=>(Rs.bind (Rs.bind (Rs.ok (2:Int)) λx94=>(Rs.bind (Rs.bind (Rs.ok a67) λx92=>(Rs.bind (Rs.ok (2:Int)) λx93=>(Qd x92 x93))) λx95=>(QE x94 x95))) λx97=>(Rs.ok (x96-x97)))) λx99=>(Rs.ok (x98,x99)))) λa100=>(chk (g65.2.length<sizeLine) ((λa102=>(Rs.ok (a88,a102))) (g65.2++[a100])))))))))))))))) λg103=>(Rs.bind (Rs.ok g103.1) λx105=>(Rs.bind (Rs.ok g103.2) λx106=>(Rs.ok (x105,x106)))))))))))))
noncomputable def Ym (a_0:(List (List Int)))(a_1:Int)(a_2:(List Int)):Rs Int:=(Rs.bind (Rs.ok []) λa1=>(Rs.bind (Rs.ok a_0) λx56=>(Rs.bind (forN x56 (a1) (λg6 a8=>(Rs.bind (Rs.ok a8) λa10=>(chk (g6.length+a10.length<=sizeLine) ((λa12=>(Rs.ok (a12))) (g6++a10)))))) λg13=>(Rs.bind (Rs.bind (Rs.bind (Rs.ok a_2) λx15=>(Rs.bind (Rs.ok (0:Int)) λx16=>(atR x15 x16))) λx17=>(Rs.bind (Rs.ok (0:Int)) λx18=>(Rs.ok (decide (x17=x18))))) λx19=>(if x19=true then(Rs.ok (0:Int)) else(Rs.bind (Rs.bind (Rs.bind (Rs.ok a_2) λx20=>(Rs.bind (Rs.ok (0:Int)) λx21=>(atR x20 x21))) λx22=>(Rs.bind (Rs.ok (1:Int)) λx23=>(Rs.ok (decide (x22=x23))))) λx24=>(if x24=true then(Rs.bind (Rs.ok a_1) λx25=>(Rs.ok (-x25))) else(Rs.bind (Rs.bind (Rs.bind (Rs.ok a_2) λx26=>(Rs.bind (Rs.ok (0:Int)) λx27=>(atR x26 x27))) λx28=>(Rs.bind (Rs.ok (2:Int)) λx29=>(Rs.ok (decide (x28=x29))))) λx30=>(if x30=true then(Rs.bind (Rs.ok g13) λx36=>(Rs.bind (Rs.bind (Rs.bind (Rs.ok a_2) λx31=>(Rs.bind (Rs.ok (4:Int)) λx32=>(atR x31 x32))) λx34=>(Rs.bind (Rs.bind (Rs.ok g13) λx33=>(Rs.ok (x33.length:Int))) λx35=>(Qd x34 x35))) λx37=>(atR x36 x37))) else(Rs.bind (Rs.ok a_1) λx54=>(Rs.bind (Rs.bind (Rs.bind (Rs.bind (Rs.ok (10:Int)) λx38=>(Rs.bind (Rs.ok (9:Int)) λx39=>(DC x38 x39))) λx42=>(Rs.bind (Rs.bind (Rs.ok a_2) λx40=>(Rs.bind (Rs.ok (4:Int)) λx41=>(atR x40 x41))) λx43=>(Rs.ok (x42+x43)))) λx52=>(Rs.bind (Rs.bind (Rs.ok (1:Int)) λx50=>(Rs.bind (Rs.bind (Rs.ok (2:Int)) λx48=>(Rs.bind (Rs.bind (Rs.bind (Rs.ok a_2) λx44=>(Rs.bind (Rs.ok (4:Int)) λx45=>(atR x44 x45))) λx46=>(Rs.bind (Rs.ok (2:Int)) λx47=>(Qd x46 x47))) λx49=>(QE x48 x49))) λx51=>(Rs.ok (x50-x51)))) λx53=>(QE x52 x53))) λx55=>(Rs.ok (x54+x55)))))))))))))
noncomputable def YM (a_0:((List (List Int))×(List (Int×Int))))(a_1:(List Int)):Rs ((List (List Int))×(List (Int×Int))):=(Rs.bind (Rs.bind (Rs.ok a_0) λx2=>(noE (YV x2))) λa3=>(Rs.bind (Rs.bind (Rs.bind (Rs.bind (Rs.ok a3.1) λx10=>(Rs.ok (x10.length:Int))) λx11=>(UD 0 x11)) λx15=>(IT x15 (λa13=>(Rs.bind (Rs.bind (Rs.bind (Rs.ok a3.1) λx16=>(Rs.bind (Rs.ok a13) λx17=>(atR x16 x17))) λx18=>(Rs.ok (x18.length:Int))) λx19=>(Rs.bind (Rs.ok (0:Int)) λx20=>(Rs.ok (decide (x20<x19)))))) (λa13=>(Rs.ok a13)))) λa8=>(Rs.bind (Rs.bind (Rs.bind (Rs.ok a8) λx21=>(Rs.ok (x21.length:Int))) λx22=>(Rs.bind (Rs.ok (0:Int)) λx23=>(Rs.ok (decide (x22=x23))))) λx24=>(if x24=true then(Rs.bind (Rs.bind (Rs.ok a3.1) λx25=>(Rs.bind (Rs.bind (Rs.bind (Rs.bind (Rs.bind (Rs.bind (Rs.ok a_1) λx29=>(Rs.bind (Rs.ok (4:Int)) λx30=>(atR x29 x30))) λx31=>(Rs.bind (Rs.ok []) λx32=>(Rs.ok (x31::x32)))) λx28=>(chk (x28.length<=sizeLine) (Rs.ok x28))) λx33=>(Rs.bind (Rs.ok []) λx34=>(Rs.ok (x33::x34)))) λx27=>(chk (x27.length<=sizeLine) (Rs.ok x27))) λx26=>(G7 x25 x26))) λx35=>(Rs.bind (Rs.ok a3.2) λx36=>(Rs.ok (x35,x36)))) else(Rs.bind (Rs.bind (Rs.ok a8) λx42=>(Rs.bind (Rs.bind (Rs.bind (Rs.ok a_1) λx37=>(Rs.bind (Rs.ok (2:Int)) λx38=>(atR x37 x38))) λx40=>(Rs.bind (Rs.bind (Rs.ok a8) λx39=>(Rs.ok (x39.length:Int))) λx41=>(Qd x40 x41))) λx43=>(atR x42 x43))) λx46=>(Rs.bind (alR a3.1 x46) λk44=>(Rs.bind (Rs.bind (Rs.bind (Rs.ok a_1) λx49=>(Rs.bind (Rs.ok (3:Int)) λx50=>(atR x49 x50))) λx52=>(Rs.bind (Rs.bind (JM a3.1 k44) λx51=>(Rs.ok (x51.length:Int))) λx53=>(Qd x52 x53))) λa47=>(Rs.bind (Rs.bind (Rs.bind (Rs.bind (Rs.ok a_1) λx54=>(Rs.bind (Rs.ok (0:Int)) λx55=>(atR x54 x55))) λx56=>(Rs.bind (Rs.ok (4:Int)) λx57=>(Rs.ok (decide (x56<x57))))) λx58=>(if x58=true then(Rs.bind (Rs.bind (Rs.ok a3.1) λx68=>(Rs.bind (Rs.bind (JM a3.1 k44) λx66=>(Rs.bind (Rs.ok a47) λx67=>(atR x66 x67))) λx69=>(Rs.bind (Rs.ok a_1) λx70=>(noE (Ym x68 x69 x70))))) λx61=>(Rs.bind (Rs.ok a47) λx62=>(Rs.bind (JM a3.1 k44) λx63=>(Rs.bind (Qg x63 x62 x61) λx64=>((λ(a59:List (List Int))=>(Rs.ok a59)) (a3.1.set k44 x64)))))) else(Rs.bind (Rs.bind (Rs.bind (Rs.ok a_1) λx71=>(Rs.bind (Rs.ok (0:Int)) λx72=>(atR x71 x72))) λx73=>(Rs.bind (Rs.ok (4:Int)) λx74=>(Rs.ok (decide (x73=x74))))) λx75=>(if x75=true then(Rs.bind (JM a3.1 k44) λx80=>(Rs.bind (Rs.ok a47) λx79=>(Rs.bind (VQ x80 x79) λx81=>((λ(a76:List (List Int))=>(Rs.ok a76)) (a3.1.set k44 x81.2))))) else(Rs.bind (Rs.bind (Rs.bind (Rs.ok a_1) λx82=>(Rs.bind (Rs.ok (0:Int)) λx83=>(atR x82 x83))) λx84=>(Rs.bind (Rs.ok (5:Int)) λx85=>(Rs.ok (decide (x84=x85))))) λx86=>(if x86=true then(Rs.bind (JM a3.1 k44) λx91=>(Rs.bind (Rs.ok a47) λx90=>(Rs.bind (Rs.bind (JM a3.1 k44) λx93=>(Rs.bind (Rs.ok a47) λx94=>(atR x93 x94))) λx89=>(Rs.bind (Gk x91 x90 x89) λx92=>((λ(a87:List (List Int))=>(Rs.ok a87)) (a3.1.set k44 x92)))))) else(Rs.bind (JM a3.1 k44) λx99=>(Rs.bind (Rs.ok a47) λx98=>(Rs.bind (Rs.bind (Rs.bind (Rs.ok (10:Int)) λx119=>(Rs.bind (Rs.ok (6:Int)) λx120=>(DC x119 x120))) λx123=>(Rs.bind (Rs.bind (Rs.ok a_1) λx121=>(Rs.bind (Rs.ok (4:Int)) λx122=>(atR x121 x122))) λx124=>(Rs.ok (x123+x124)))) λx97=>(Rs.bind (Gk x99 x98 x97) λx100=>((λ(a95:List (List Int))=>(Rs.bind (JM a95 k44) λx105=>(Rs.bind (Rs.bind (Rs.bind (Rs.ok a_1) λx107=>(Rs.bind (Rs.ok (4:Int)) λx108=>(atR x107 x108))) λx110=>(Rs.bind (Rs.bind (JM a95 k44) λx109=>(Rs.ok (x109.length:Int))) λx111=>(Qd x110 x111))) λx104=>(Rs.bind (Rs.bind (Rs.bind (Rs.bind (Rs.ok (10:Int)) λx112=>(Rs.bind (Rs.ok (6:Int)) λx113=>(DC x112 x113))) λx114=>(Rs.ok (-x114))) λx117=>(Rs.bind (Rs.bind (Rs.ok a_1) λx115=>(Rs.bind (Rs.ok (4:Int)) λx116=>(atR x115 x116))) λx118=>(Rs.ok (x117-x118)))) λx103=>(Rs.bind (Gk x105 x104 x103) λx106=>((λ(a101:List (List Int))=>(Rs.ok a101)) (a95.set k44 x106))))))) (a3.1.set k44 x100)))))))))))) λg125=>(Rs.bind (Rs.ok g125) λx127=>(Rs.bind (Rs.ok a3.2) λx128=>(Rs.ok (x127,x128))))))))))))
noncomputable def YL (a_0:((List (List Int))×(List (Int×Int))))(a_1:(List Int)):Rs ((List (List Int))×(List (Int×Int))):=(Rs.bind (Rs.bind (Rs.ok a_0) λx2=>(noE (YV x2))) λa3=>(Rs.bind (orR (Rs.bind (Rs.bind (Rs.ok a3.2) λx8=>(Rs.ok (x8.length:Int))) λx9=>(Rs.bind (Rs.ok (0:Int)) λx10=>(Rs.ok (decide (x9=x10))))) (Rs.bind (Rs.bind (Rs.ok a_1) λx11=>(Rs.bind (Rs.ok (1:Int)) λx12=>(atR x11 x12))) λx13=>(Rs.bind (Rs.ok (0:Int)) λx14=>(Rs.ok (decide (x13=x14)))))) λx15=>(if x15=true then(Rs.bind (Rs.ok a3.1) λx27=>(Rs.bind (Rs.bind (Rs.ok a3.2) λx16=>(Rs.bind (Rs.bind (Rs.bind (Rs.bind (Rs.bind (Rs.bind (Rs.ok a_1) λx19=>(Rs.bind (Rs.ok (4:Int)) λx20=>(atR x19 x20))) λx21=>(Rs.bind (Rs.ok (3:Int)) λx22=>(Rs.ok (x21-x22)))) λx23=>(Rs.bind (Rs.ok (1:Int)) λx24=>(Rs.ok (x23,x24)))) λx25=>(Rs.bind (Rs.ok []) λx26=>(Rs.ok (x25::x26)))) λx18=>(chk (x18.length<=sizeLine) (Rs.ok x18))) λx17=>(G7 x16 x17))) λx28=>(Rs.ok (x27,x28)))) else(Rs.bind (Rs.bind (Rs.bind (Rs.ok a_1) λx31=>(Rs.bind (Rs.ok (3:Int)) λx32=>(atR x31 x32))) λx34=>(Rs.bind (Rs.bind (Rs.ok a3.2) λx33=>(Rs.ok (x33.length:Int))) λx35=>(Qd x34 x35))) λa29=>(Rs.bind (Rs.bind (Rs.ok a3.2) λx36=>(Rs.bind (Rs.ok a29) λx37=>(atR x36 x37))) λa38=>(Rs.bind (Rs.bind (Rs.bind (Rs.bind (Rs.ok a_1) λx41=>(Rs.bind (Rs.ok (1:Int)) λx42=>(atR x41 x42))) λx43=>(Rs.bind (Rs.ok (1:Int)) λx44=>(Rs.ok (decide (x43=x44))))) λx45=>(if x45=true then(Rs.bind (Rs.ok a29) λx50=>(Rs.bind (VQ a3.2 x50) λp51=>((λ(a48:(List (Int×Int)))=>(Rs.ok (a48))) p51.2))) else(Rs.bind (Rs.bind (Rs.bind (Rs.bind (Rs.ok a_1) λx52=>(Rs.bind (Rs.ok (1:Int)) λx53=>(atR x52 x53))) λx54=>(Rs.bind (Rs.ok (2:Int)) λx55=>(Rs.ok (decide (x54=x55))))) λx56=>(if x56=true then(Rs.bind (Rs.ok a29) λx62=>(Rs.bind (Rs.bind (Rs.ok a38.1) λx63=>(Rs.bind (Rs.ok a38.2) λx64=>(Rs.ok (x63,x64)))) λx61=>(Rs.bind (Gk a3.2 x62 x61) λa59=>(Rs.ok (a59))))) else(Rs.bind (Rs.bind (Rs.bind (Rs.bind (Rs.ok a_1) λx65=>(Rs.bind (Rs.ok (1:Int)) λx66=>(atR x65 x66))) λx67=>(Rs.bind (Rs.ok (3:Int)) λx68=>(Rs.ok (decide (x67=x68))))) λx69=>(if x69=true then(Rs.bind (Rs.ok a29) λx74=>(Rs.bind (VQ a3.2 x74) λp75=>((λ(a72:(List (Int×Int)))=>(Rs.bind (Rs.bind (Rs.ok a29) λx80=>(Rs.bind (Rs.ok (1:Int)) λx81=>(Rs.ok (x80+x81)))) λx79=>(Rs.bind (Rs.bind (Rs.ok a38.1) λx82=>(Rs.bind (Rs.ok a38.2) λx83=>(Rs.ok (x82,x83)))) λx78=>(Rs.bind (Gk a72 x79 x78) λa76=>(Rs.ok (a76)))))) p75.2))) else(Rs.bind (Rs.bind (Rs.bind (Rs.bind (Rs.ok a_1) λx84=>(Rs.bind (Rs.ok (1:Int)) λx85=>(atR x84 x85))) λx86=>(Rs.bind (Rs.ok (4:Int)) λx87=>(Rs.ok (decide (x86=x87))))) λx88=>(if x88=true then(Rs.bind (Rs.bind (Rs.ok a38.1) λx105=>(Rs.bind (Rs.bind (Rs.bind (Rs.bind (Rs.ok (0:Int)) λx97=>(Rs.bind (Rs.bind (Rs.ok (2:Int)) λx95=>(Rs.bind (Rs.bind (Rs.bind (Rs.ok (3:Int)) λx92=>(Rs.ok (-x92))) λx93=>(Rs.bind (Rs.ok []) λx94=>(Rs.ok (x93::x94)))) λx96=>(Rs.ok (x95::x96)))) λx98=>(Rs.ok (x97::x98)))) λx91=>(chk (x91.length<=sizeLine) (Rs.ok x91))) λx103=>(Rs.bind (Rs.bind (Rs.bind (Rs.ok a_1) λx99=>(Rs.bind (Rs.ok (4:Int)) λx100=>(atR x99 x100))) λx101=>(Rs.bind (Rs.ok (3:Int)) λx102=>(Qd x101 x102))) λx104=>(atR x103 x104))) λx106=>(Rs.ok (x105,x106)))) λx107=>(Rs.bind (Rs.ok a29) λx108=>(Rs.bind (Qg a3.2 x108 x107) λa109=>(Rs.ok (a109))))) else(Rs.bind (Rs.bind (Rs.bind (Rs.bind (Rs.ok a_1) λx111=>(Rs.bind (Rs.ok (1:Int)) λx112=>(atR x111 x112))) λx113=>(Rs.bind (Rs.ok (5:Int)) λx114=>(Rs.ok (decide (x113=x114))))) λx115=>(if x115=true then(Rs.bind (Rs.bind (Rs.bind (Rs.ok a38.1) λx118=>(Rs.ok (-x118))) λx119=>(Rs.bind (Rs.ok a38.2) λx120=>(Rs.ok (x119,x120)))) λx121=>(Rs.bind (Rs.ok a29) λx122=>(Rs.bind (Qg a3.2 x122 x121) λa123=>(Rs.ok (a123))))) else(Rs.bind (Rs.bind (Rs.bind (Rs.bind (Rs.ok a3.2) λx130=>(Rs.bind (Rs.bind (Rs.bind (Rs.ok a_1) λx125=>(Rs.bind (Rs.ok (4:Int)) λx126=>(atR x125 x126))) λx128=>(Rs.bind (Rs.bind (Rs.ok a3.2) λx127=>(Rs.ok (x127.length:Int))) λx129=>(Qd x128 x129))) λx131=>(atR x130 x131))) λx132=>(Rs.ok x132.1)) λx133=>(Rs.bind (Rs.ok a38.2) λx134=>(Rs.ok (x133,x134)))) λx135=>(Rs.bind (Rs.ok a29) λx136=>(Rs.bind (Qg a3.2 x136 x135) λa137=>(Rs.ok (a137))))))) λg140=>(Rs.ok (g140))))) λg142=>(Rs.ok (g142))))) λg144=>(Rs.ok (g144))))) λg146=>(Rs.ok (g146))))) λg148=>(Rs.bind (Rs.ok a3.1) λx149=>(Rs.bind (Rs.ok g148) λx150=>(Rs.ok (x149,x150))))))))))
noncomputable def QK (a_0:(List (List Int)))(a_1:(List Int))(a_2:Int)(a_3:Int):Rs Bool:=(Rs.bind (Rs.bind (Rs.bind (Rs.ok a_0) λx3=>(Rs.bind (Rs.ok a_2) λx4=>(atR x3 x4))) λx5=>(Rs.bind (Rs.ok a_3) λx6=>(atR x5 x6))) λa1=>(Rs.bind (Rs.bind (Rs.bind (Rs.bind (Rs.ok a_0) λx15=>(Rs.bind (Rs.ok a_2) λx16=>(atR x15 x16))) λx12=>(Rs.bind (Rs.ok none) λx13=>(Rs.bind (Rs.bind (Rs.ok a_3) λx11=>(Rs.ok (some x11))) λx14=>(Rs.ok (Uc x12 x13 x14))))) λx10=>(Rs.ok x10)) λa7=>(Rs.bind (Rs.ok []) λa17=>(Rs.bind (Rs.ok a_0) λx58=>(Rs.bind (forN x58 (a17) (λg22 a24=>(Rs.bind (Rs.ok a24) λa26=>(chk (g22.length+a26.length<=sizeLine) ((λa28=>(Rs.ok (a28))) (g22++a26)))))) λg29=>(Rs.bind (Rs.bind (Rs.ok a_0) λx32=>(Rs.bind (Rs.ok none) λx33=>(Rs.bind (Rs.bind (Rs.ok a_2) λx31=>(Rs.ok (some x31))) λx34=>(Rs.ok (Uc x32 x33 x34))))) λx57=>(Rs.bind (forN x57 (a7) (λg37 a39=>(Rs.bind (Rs.ok a39) λa41=>(chk (g37.length+a41.length<=sizeLine) ((λa43=>(Rs.ok (a43))) (g37++a41)))))) λg44=>(Rs.bind (orR (Rs.bind (Rs.ok a1) λx46=>(Rs.bind (Rs.ok (0:Int)) λx47=>(Rs.ok (decide (x46=x47))))) (Rs.bind (Rs.ok a1) λx48=>(Rs.bind (Rs.ok g44) λx49=>(Rs.ok (decide (x48∈x49)))))) λx50=>(if x50=true then(Rs.ok true) else(orR (Rs.bind (Rs.bind (Rs.ok a1) λx51=>(Rs.ok (-x51))) λx52=>(Rs.bind (Rs.ok g29) λx53=>(Rs.ok (!(decide (x52∈x53)))))) (Rs.bind (Rs.bind (Rs.ok a1) λx54=>(Rs.ok (x54.natAbs:Int))) λx55=>(Rs.bind (Rs.ok a_1) λx56=>(Rs.ok (!(decide (x55∈x56))))))))))))))))
noncomputable def KD (a_0:((List (List Int))×(List (Int×Int)))):Rs (Option (List (Str ⊕ Int))):=(Rs.bind (Rs.ok a_0) λa1=>(Rs.bind (Rs.bind (Rs.ok a1.2) λx9=>(DQ x9 (λa7=>(Rs.ok a7.1)))) λa4=>(Rs.bind (Rs.ok []) λa10=>(Rs.bind (Rs.bind (Rs.bind (Rs.ok a1.1) λx13=>(Rs.ok (x13.length:Int))) λx14=>(UD 0 x14)) λx145=>(Rs.bind (forC x145 (a10) (λg17 a19=>(Rs.bind (Rs.bind (Rs.ok a1.1) λx23=>(Rs.bind (Rs.ok a19) λx24=>(atR x23 x24))) λa25=>(chk (g17.length+a25.length<=sizeLine) ((λa27=>(Rs.bind (Rs.bind (Rs.bind (Rs.bind (Rs.ok a1.1) λx28=>(Rs.bind (Rs.ok a19) λx29=>(atR x28 x29))) λx30=>(Rs.ok (x30.length:Int))) λx31=>(UD 0 x31)) λx60=>(Rs.bind (forC x60 () (λg34 a36=>(Rs.bind (Rs.bind (Rs.ok a1.1) λx39=>(Rs.bind (Rs.ok a4) λx40=>(Rs.bind (Rs.ok a19) λx41=>(Rs.bind (Rs.ok a36) λx42=>(noE (QK x39 x40 x41 x42)))))) λx43=>(if x43=true then(Rs.bind (Rs.bind (Rs.bind ((Rs.bind (Rs.bind (Rs.ok ("walk":Str)) λx50=>(Rs.ok (Sum.inl x50))) λx51=>(Rs.bind (Rs.bind (Rs.bind (Rs.ok a19) λx47=>(Rs.ok (Sum.inr x47))) λx48=>(Rs.bind (Rs.bind (Rs.bind (Rs.ok a36) λx44=>(Rs.ok (Sum.inr x44))) λx45=>(Rs.bind (Rs.ok []) λx46=>(Rs.ok (x45::x46)))) λx49=>(Rs.ok (x48::x49)))) λx52=>(Rs.ok (x51::x52)))):Rs (List (Str ⊕ Int))) λx53=>(chk (x53.length<=sizeLine) (Rs.ok x53))) λx54=>(Rs.ok (some x54))) λx56=>(Rs.ok (Ctl.ret x56))) else(Rs.bind (Rs.ok ()) λx55=>(Rs.ok (Ctl.nx x55))))))) (Qp λg57=>(Rs.bind (Rs.ok (a27)) λx59=>(Rs.ok (Ctl.nx x59))))))) (g17++a25)))))) (Q2 λg61=>(Rs.bind (Rs.bind (Rs.bind (Rs.ok a1.2) λx63=>(Rs.ok (x63.length:Int))) λx64=>(UD 0 x64)) λx144=>(Rs.bind (forC x144 () (λg67 a69=>(Rs.bind (Rs.bind (Rs.ok a1.2) λx71=>(Rs.bind (Rs.ok a69) λx72=>(atR x71 x72))) λa73=>(Rs.bind (orR (Kg (Rs.bind (Rs.ok a69) λx76=>(Rs.bind (Rs.ok (0:Int)) λx77=>(Rs.ok (decide (x76=x77))))) (Rs.bind (Rs.ok a73.1) λx78=>(Rs.bind (Rs.ok (1:Int)) λx79=>(Rs.ok (decide (x78<x79)))))) (Kg (Rs.bind (Rs.ok a69) λx80=>(Rs.bind (Rs.ok (0:Int)) λx81=>(Rs.ok (decide (x81<x80))))) (Rs.bind (Rs.ok a73.1) λx87=>(Rs.bind (Rs.bind (Rs.bind (Rs.ok a1.2) λx84=>(Rs.bind (Rs.bind (Rs.ok a69) λx82=>(Rs.bind (Rs.ok (1:Int)) λx83=>(Rs.ok (x82-x83)))) λx85=>(atR x84 x85))) λx86=>(Rs.ok x86.1)) λx88=>(Rs.ok (decide (x87<=x88))))))) λx89=>(if x89=true then(Rs.bind (Rs.bind (Rs.bind ((Rs.bind (Rs.bind (Rs.ok ("sign":Str)) λx93=>(Rs.ok (Sum.inl x93))) λx94=>(Rs.bind (Rs.bind (Rs.bind (Rs.ok a69) λx90=>(Rs.ok (Sum.inr x90))) λx91=>(Rs.bind (Rs.ok []) λx92=>(Rs.ok (x91::x92)))) λx95=>(Rs.ok (x94::x95)))):Rs (List (Str ⊕ Int))) λx96=>(chk (x96.length<=sizeLine) (Rs.ok x96))) λx97=>(Rs.ok (some x97))) λx115=>(Rs.ok (Ctl.ret x115))) else(Rs.bind (orR (Rs.bind (Rs.bind (Rs.ok a73.2) λx98=>(Rs.bind (Rs.ok a73.2) λx99=>(QE x98 x99))) λx100=>(Rs.bind (Rs.ok (1:Int)) λx101=>(Rs.ok (!(decide (x100=x101)))))) (Rs.bind (Rs.ok a73.1) λx102=>(Rs.bind (Rs.ok g61) λx103=>(Rs.ok (!(decide (x102∈x103))))))) λx104=>(if x104=true then(Rs.bind (Rs.bind (Rs.bind ((Rs.bind (Rs.bind (Rs.ok ("sign":Str)) λx108=>(Rs.ok (Sum.inl x108))) λx109=>(Rs.bind (Rs.bind (Rs.bind (Rs.ok a69) λx105=>(Rs.ok (Sum.inr x105))) λx106=>(Rs.bind (Rs.ok []) λx107=>(Rs.ok (x106::x107)))) λx110=>(Rs.ok (x109::x110)))):Rs (List (Str ⊕ Int))) λx111=>(chk (x111.length<=sizeLine) (Rs.ok x111))) λx112=>(Rs.ok (some x112))) λx114=>(Rs.ok (Ctl.ret x114))) else(Rs.bind (Rs.ok ()) λx113=>(Rs.ok (Ctl.nx x113)))))))))) (Q2 λg116=>(Rs.bind (Rs.bind (Rs.bind (Rs.ok a1.2) λx118=>(Rs.ok (x118.length:Int))) λx119=>(Rs.bind (Rs.ok (40:Int)) λx120=>(Rs.ok (decide (x120<x119))))) λx121=>(if x121=true then(Rs.bind (Rs.bind ((Rs.bind (Rs.bind (Rs.ok ("many":Str)) λx126=>(Rs.ok (Sum.inl x126))) λx127=>(Rs.bind (Rs.bind (Rs.bind (Rs.bind (Rs.ok a1.2) λx122=>(Rs.ok (x122.length:Int))) λx123=>(Rs.ok (Sum.inr x123))) λx124=>(Rs.bind (Rs.ok []) λx125=>(Rs.ok (x124::x125)))) λx128=>(Rs.ok (x127::x128)))):Rs (List (Str ⊕ Int))) λx129=>(chk (x129.length<=sizeLine) (Rs.ok x129))) λx130=>(Rs.ok (some x130))) else(Rs.bind (Rs.bind (Rs.bind (Rs.ok a1.1) λx131=>(Rs.ok (x131.length:Int))) λx132=>(Rs.bind (Rs.ok (12:Int)) λx133=>(Rs.ok (decide (x133<x132))))) λx134=>(if x134=true then(Rs.bind (Rs.bind ((Rs.bind (Rs.bind (Rs.ok ("many":Str)) λx139=>(Rs.ok (Sum.inl x139))) λx140=>(Rs.bind (Rs.bind (Rs.bind (Rs.bind (Rs.ok a1.1) λx135=>(Rs.ok (x135.length:Int))) λx136=>(Rs.ok (Sum.inr x136))) λx137=>(Rs.bind (Rs.ok []) λx138=>(Rs.ok (x137::x138)))) λx141=>(Rs.ok (x140::x141)))):Rs (List (Str ⊕ Int))) λx142=>(chk (x142.length<=sizeLine) (Rs.ok x142))) λx143=>(Rs.ok (some x143))) else(Rs.ok none))))))))))))))
noncomputable def Ju (a_0:(Option (List (Str ⊕ Int))))(a_1:(Option (List (Str ⊕ Int)))):Rs Bool:=(Rs.bind (Rs.bind (Rs.ok a_1) λx1=>(Rs.ok x1.isNone)) λx2=>(if x2=true then(Rs.bind (Rs.ok a_0) λx3=>(Rs.ok x3.isNone)) else(Rs.bind (orR (Rs.bind (Rs.bind (Rs.ok a_0) λx4=>(Rs.ok (if x4.isSome=true then true else false))) λx5=>(Rs.ok (!x5))) (Rs.bind (Rs.bind (Rs.bind (Rs.ok a_0) BQ) λx6=>(Rs.ok (x6.length:Int))) λx8=>(Rs.bind (Rs.bind (Rs.bind (Rs.ok a_1) BQ) λx7=>(Rs.ok (x7.length:Int))) λx9=>(Rs.ok (!(decide (x8=x9))))))) λx10=>(if x10=true then(Rs.ok false) else(Rs.bind (BQ a_0) λa11=>(Rs.bind (Rs.bind (Rs.ok a11) λx13=>(Rs.bind (Rs.bind (Rs.ok (1:Int)) λx12=>(Rs.ok (some x12))) λx14=>(Rs.bind (Rs.ok none) λx15=>(chk (¬(HT.sIx x13.length 0 x14=0/\HT.sIx x13.length x13.length x15=x13.length)) (Rs.ok (Uc x13 x14 x15)))))) λx37=>(Rs.bind (forC x37 () (λg18 a20=>(Rs.bind (getR a20) λa22=>(Rs.bind (Rs.bind (Rs.bind (Rs.ok a22) λx24=>(noE (Y5 x24))) λx25=>(Rs.ok (!x25))) λx26=>(if x26=true then(Rs.bind (Rs.ok false) λx28=>(Rs.ok (Ctl.ret x28))) else(Rs.bind (Rs.ok ()) λx27=>(Rs.ok (Ctl.nx x27)))))))) (Q2 λg29=>(Kg (Rs.bind (Rs.bind (Rs.bind (Rs.ok a11) λx31=>(Rs.bind (Rs.ok (0:Int)) λx32=>(atR x31 x32))) siS) λx33=>(Rs.ok true)) (Rs.bind (Rs.bind (Rs.ok a11) λx36=>(Rs.ok (some x36))) λx34=>(Rs.bind (Rs.ok a_1) λx35=>(Rs.ok (decide (x34=x35))))))))))))))
noncomputable def ZR (a_0:((List (List Int))×(List (Int×Int)))):Rs (Bool×(Option (List (Str ⊕ Int)))):=(Rs.bind (Rs.ok a_0) λx2=>(Rs.tryC (Ye x2) (λ_=>(Rs.bind (Rs.ok false) λx19=>(Rs.bind (Rs.ok none) λx20=>(Rs.ok (x19,x20))))) (λx1=>(chk (cau XM x1.cls "NotADrawing" =true) (Rs.bind (Kg (Rs.ok (Y6 x1.cls "PlaitError")) (Rs.ok true)) λa3=>(Rs.bind (orR (Rs.ok (Y6 x1.cls "NoCrossing")) (orR (Rs.ok (Y6 x1.cls "TooBig")) (Rs.bind (Rs.ok a3) λx5=>(Rs.ok (!x5))))) λx6=>(if x6=true then(Rs.bind (Rs.ok true) λx15=>(Rs.bind (Rs.bind (Rs.bind ((Rs.bind (Rs.bind (Rs.ok ("strange":Str)) λx10=>(Rs.ok (Sum.inl x10))) λx11=>(Rs.bind (Rs.bind (Rs.bind (Rs.ok (0:Int)) λx7=>(Rs.ok (Sum.inr x7))) λx8=>(Rs.bind (Rs.ok []) λx9=>(Rs.ok (x8::x9)))) λx12=>(Rs.ok (x11::x12)))):Rs (List (Str ⊕ Int))) λx13=>(chk (x13.length<=sizeLine) (Rs.ok x13))) λx14=>(Rs.ok (some x14))) λx16=>(Rs.ok (x15,x16)))) else(Rs.bind (Rs.ok true) λx17=>(Rs.bind (Rs.bind (chk (x1.pay≠Pay.non) (Rs.ok (fvP x1.pay))) LJ) λx18=>(Rs.ok (x17,x18)))))))))))
noncomputable def Qy (a_0:((List (List Int))×(List (Int×Int)))):Rs Bool:=(Rs.bind (Rs.bind (Rs.ok a_0) λx5=>(noE (YV x5))) λa1=>(Rs.bind (Rs.bind (Rs.ok a1) λx9=>(noE (Ye x9))) λa6=>(Rs.bind (orR (Rs.bind (Rs.bind (Rs.ok a6) λx11=>(noE (Y2 x11))) λx12=>(Rs.ok (!x12))) (orR (Rs.bind (Rs.ok a6) λx13=>(Rs.bind (Rs.ok a_0) λx14=>(Rs.ok (!(decide (x13=x14)))))) (Rs.bind (Rs.ok a1) λx15=>(Rs.bind (Rs.ok a_0) λx16=>(Rs.ok (!(decide (x15=x16)))))))) λx17=>(if x17=true then(Rs.ok false) else(Rs.bind (Rs.bind (Rs.bind (Rs.ok (7:Int)) λx24=>(Rs.bind (Rs.ok []) λx25=>(Rs.ok (x24::x25)))) λx23=>(chk (x23.length<=sizeLine) (Rs.ok x23))) λa26=>(chk (a1.1.length<sizeLine) ((λ(a28:(List (List Int)))=>((λ(a30:(List (Int×Int)))=>(Rs.bind (Rs.bind (Rs.bind (Rs.bind (Rs.bind (Rs.ok a_0) λx31=>(Rs.ok x31.1)) λx32=>(Rs.ok (x32.length:Int))) λx33=>(Rs.bind (Rs.ok (0:Int)) λx34=>(Rs.ok (decide (x34<x33))))) λx35=>(if x35=true then(Rs.bind (Rs.ok (0:Int)) λx39=>(Rs.bind (atR a28 x39) λx40=>(Rs.bind (Rs.ok (5:Int)) λx38=>(chk (x40.length<sizeLine) (Rs.bind (Qg a28 x39 (x40++[x38])) λa41=>(Rs.ok ())))))) else(Rs.ok ()))) λg44=>(Rs.bind (Rs.bind (Rs.ok a6) λx45=>(Rs.bind (Rs.ok a_0) λx46=>(Rs.ok (!(decide (x45=x46)))))) λx47=>(if x47=true then(Rs.ok false) else(Rs.bind (Rs.ok []) λa53=>(chk (a6.1.length<sizeLine) ((λ(a55:(List (List Int)))=>(Kg (Rs.bind (Rs.bind (Rs.bind (Rs.ok a_0) λx57=>(noE (YV x57))) λx58=>(noE (Ye x58))) λx59=>(Rs.bind (Rs.ok a_0) λx60=>(Rs.ok (decide (x59=x60))))) (Rs.bind (Rs.bind (Rs.bind (Rs.ok a_0) λx63=>(noE (YV x63))) λx64=>(noE (Za x64))) λx65=>(Rs.ok x65.isNone)))) (a6.1++[a53])))))))) [])) (a1.1++[a26]))))))))
noncomputable def Kj (a_0:(List Int)):Rs Bool:=(Rs.bind (Rs.bind (Rs.ok a_0) λx4=>(Rs.bind (Rs.ok (0:Int)) λx5=>(Rs.bind (Rs.ok (10:Int)) λx6=>(noE (Jk x4 x5 x6))))) λa1=>(Rs.bind (Rs.bind (Rs.ok a_0) λx32=>(Rs.bind (Rs.ok (1:Int)) λx33=>(Rs.bind (Rs.bind (Rs.bind (Rs.bind (Rs.ok (4:Int)) λx15=>(Rs.bind (Rs.bind (Rs.ok (3:Int)) λx13=>(Rs.bind (Rs.ok []) λx14=>(Rs.ok (x13::x14)))) λx16=>(Rs.ok (x15::x16)))) λx12=>(chk (x12.length<=sizeLine) (Rs.ok x12))) λx10=>(Rs.bind (Rs.bind (Rs.bind (Rs.bind (Rs.ok (7:Int)) λx30=>(Rs.bind (Rs.bind (Rs.ok (7:Int)) λx28=>(Rs.bind (Rs.bind (Rs.ok (40:Int)) λx26=>(Rs.bind (Rs.bind (Rs.ok (90:Int)) λx24=>(Rs.bind (Rs.bind (Rs.ok (40:Int)) λx22=>(Rs.bind (Rs.bind (Rs.ok (2:Int)) λx20=>(Rs.bind (Rs.ok []) λx21=>(Rs.ok (x20::x21)))) λx23=>(Rs.ok (x22::x23)))) λx25=>(Rs.ok (x24::x25)))) λx27=>(Rs.ok (x26::x27)))) λx29=>(Rs.ok (x28::x29)))) λx31=>(Rs.ok (x30::x31)))) λx19=>(chk (x19.length<=sizeLine) (Rs.ok x19))) λx17=>(Rs.bind (Rs.ok (2:Int)) λx18=>(Ca x17 x18))) λx11=>(G7 x10 x11))) λx34=>(noE (Uh x32 x33 x34))))) λa7=>(Rs.bind (Rs.bind (Rs.bind (Rs.bind (Rs.ok a7) λx35=>(Rs.bind (Rs.ok (0:Int)) λx36=>(atR x35 x36))) λx37=>(Rs.bind (Rs.ok (0:Int)) λx38=>(Rs.ok (decide (x37=x38))))) λx39=>(if x39=true then(Rs.bind (Rs.bind (Rs.bind (Rs.ok a_0) λx53=>(Rs.bind (Rs.ok (2:Int)) λx54=>(Rs.bind (Rs.bind (Rs.bind (Rs.ok (5:Int)) λx51=>(Rs.bind (Rs.bind (Rs.ok (8:Int)) λx49=>(Rs.bind (Rs.bind (Rs.ok (3:Int)) λx47=>(Rs.bind (Rs.ok []) λx48=>(Rs.ok (x47::x48)))) λx50=>(Rs.ok (x49::x50)))) λx52=>(Rs.ok (x51::x52)))) λx46=>(chk (x46.length<=sizeLine) (Rs.ok x46))) λx55=>(noE (Uh x53 x54 x55))))) λx56=>(noE (Q9 x56))) λa42=>(Rs.ok (a42))) else(Rs.ok (a1)))) λg58=>(Rs.bind (Rs.bind (Rs.ok g58) λx62=>(noE (YV x62))) λa59=>(Rs.bind (Rs.bind (Rs.bind (Rs.ok a7) λx63=>(Rs.bind (Rs.ok (1:Int)) λx64=>(atR x63 x64))) λx65=>(UD 0 x65)) λx148=>(Rs.bind (forN x148 (a59) (λg68 a70=>(Rs.bind (Rs.bind (Rs.ok a7) λx84=>(Rs.bind (Rs.bind (Rs.bind (Rs.bind (Rs.ok (6:Int)) λx74=>(Rs.bind (Rs.ok a70) λx75=>(QE x74 x75))) λx76=>(Rs.bind (Rs.ok (2:Int)) λx77=>(Rs.ok (x76+x77)))) λx78=>(Rs.ok (some x78))) λx85=>(Rs.bind (Rs.bind (Rs.bind (Rs.bind (Rs.ok (6:Int)) λx79=>(Rs.bind (Rs.ok a70) λx80=>(QE x79 x80))) λx81=>(Rs.bind (Rs.ok (8:Int)) λx82=>(Rs.ok (x81+x82)))) λx83=>(Rs.ok (some x83))) λx86=>(Rs.ok (Uc x84 x85 x86))))) λa72=>(Rs.bind (Rs.bind (Rs.bind (Rs.bind (Rs.ok a72) λx87=>(Rs.bind (Rs.ok (5:Int)) λx88=>(atR x87 x88))) λx89=>(Rs.bind (Rs.ok (0:Int)) λx90=>(Rs.ok (decide (x89=x90))))) λx91=>(if x91=true then(Rs.bind (Rs.bind (Rs.ok g68) λx97=>(Rs.bind (Rs.ok a72) λx98=>(noE (YL x97 x98)))) λa94=>(Rs.ok (a94))) else(Rs.bind (Rs.bind (Rs.ok g68) λx102=>(Rs.bind (Rs.ok a72) λx103=>(noE (YM x102 x103)))) λa99=>(Rs.ok (a99))))) λg105=>(Rs.ok (g105)))))) λg106=>(Rs.bind (Rs.bind (Rs.ok g106) λx111=>(noE (KD x111))) λa108=>(Rs.bind (Rs.bind (Rs.ok g106) λx115=>(noE (YV x115))) λa112=>(Rs.bind (orR (Rs.bind (Rs.bind (Rs.bind (Rs.ok a112) λx118=>(noE (Za x118))) λx119=>(Rs.bind (Rs.ok a108) λx120=>(noE (Ju x119 x120)))) λx121=>(Rs.ok (!x121))) (Rs.bind (Rs.ok a112) λx122=>(Rs.bind (Rs.ok g106) λx123=>(Rs.ok (!(decide (x122=x123))))))) λx124=>(if x124=true then(Rs.ok false) else(Rs.bind (Rs.bind (Rs.ok a108) λx125=>(Rs.ok x125.isNone)) λx126=>(if x126=true then(Rs.bind (Rs.ok g106) λx128=>(noE (Qy x128))) else(Rs.bind (Rs.bind (Rs.ok a112) λx130=>(noE (ZR x130))) λa131=>(Rs.bind (orR (Rs.bind (Rs.ok a131.1) λx134=>(Rs.ok (!x134))) (orR (Rs.bind (Rs.bind (Rs.ok a131.2) λx136=>(Rs.bind (Rs.ok a108) λx137=>(noE (Ju x136 x137)))) λx138=>(Rs.ok (!x138))) (Rs.bind (Rs.ok a112) λx139=>(Rs.bind (Rs.ok g106) λx140=>(Rs.ok (!(decide (x139=x140)))))))) λx141=>(if x141=true then(Rs.ok false) else(Rs.bind (Rs.bind (Rs.bind (Rs.ok g58) λx143=>(noE (KD x143))) λx144=>(Rs.ok x144.isSome)) λx145=>(if x145=true then(Rs.ok true) else(Rs.bind (Rs.ok g58) λx147=>(noE (Qy x147))))))))))))))))))))
end My
namespace L2
open PySem
section
variable {α β γ ρ:Type}
theorem Rs.okb (a:α)(f:α->Rs β):(Rs.ok a).bind f=f a:=(Eq.refl (f a)).symm.symm
theorem F0 {f:α->Rs β}{h:α->β}:∀{as:List α},(∀a∈as,f a= .ok (h a))->G6 as f= .ok (as.map h)
 | [],_=>rfl
 |a::as,hf=>by
  show(f a).bind _=_
  rw[hf a (by simp),Rs.ok_bind,F0 λb hb=>hf b (by simp[hb])];rfl
theorem Qw {f:α->Rs β}{h:α->β}{as:List α}(hl:as.length<=sizeLine)(hf:∀a∈as,f a= .ok (h a)):DQ as f= .ok (as.map h):=by
 unfold DQ;rw[XG hl];exact F0 hf
theorem F3 {c:α->Rs Bool}{f:α->Rs β}{p:α->Bool}{h:α->β}:∀{as:List α},(∀a∈as,c a= .ok (p a))->(∀a∈as,p a=true->f a= .ok (h a))->Gm as c f= .ok ((as.filter p).map h)
 | [],_,_=>rfl
 |a::as,hc,hf=>by
  show(c a).bind _=_
  rw[hc a (by simp),Rs.ok_bind]
  have ih:=F3 (as:=as) (λb hb=>hc b (by simp[hb])) λb hb=>hf b (by simp[hb])
  cases hp:p a with
  |false=>rw[if_neg (by simp),ih,List.filter_cons,hp];rfl
  |true=>rw[if_pos rfl,hf a (by simp) hp,Rs.ok_bind,ih,List.filter_cons,hp];rfl
theorem Ex {c:α->Rs Bool}{f:α->Rs β}{p:α->Bool}{h:α->β}{as:List α}(hl:as.length<=sizeLine)(hc:∀a∈as,c a= .ok (p a))(hf:∀a∈as,p a=true->f a= .ok (h a)):IT as c f= .ok ((as.filter p).map h):=by
 unfold IT;rw[XG hl];exact F3 hc hf
theorem Kf {f:γ->α->Rs γ}(P:Nat->γ->Prop):∀(as:List α) (k:Nat) (g:γ),P k g->(∀i a g,as[i]?=some a->P (k+i) g->∃g',f g a= .ok g'/\P (k+i+1) g')->∃g',forN as g f= .ok g'/\P (k+as.length) g'
 | [],k,g,h0,_=>⟨g,rfl,h0⟩
 |a::as,k,g,h0,hs=>by
  obtain⟨g1,e1,p1⟩:=hs 0 a g rfl h0
  obtain⟨g2,e2,p2⟩:=Kf P as (k+1) g1 p1 λi b g hb hp=>by
   obtain⟨g',e',p'⟩:=hs (i+1) b g (by simpa using hb) (by rw[show k+(i+1)=k+1+i by (first|lia|omega)];exact hp)
   exact⟨g',e',by rw[show k+1+i+1=k+(i+1)+1 by (first|lia|omega)];exact p'⟩
  refine⟨g2,?_,by rw[List.length_cons,show k+(as.length+1)=k+1+as.length by (first|lia|omega)];exact p2⟩
  show(f g a).bind _=_
  rw[e1,Rs.ok_bind];exact e2
theorem Go {f:γ->α->Rs γ}(P:Nat->γ->Prop){as:List α}{g:γ}(h0:P 0 g)(hs:∀i a g,as[i]?=some a->P i g->∃g',f g a= .ok g'/\P (i+1) g'):∃g',forN as g f= .ok g'/\P as.length g':=by
 have:=Kf P as 0 g h0 (by simpa using hs)
 simpa using this
theorem QX {f:γ->α->Rs (Ctl ρ γ)}:∀{as:List α}{g:γ},(∀a∈as,f g a= .ok (.nx g))->forC as g f= .ok (.nx g)
 | [],_,_=>rfl
 |a::as,g,hf=>by
  show(f g a).bind _=_
  rw[hf a (by simp),Rs.ok_bind]
  exact QX λb hb=>hf b (by simp[hb])
theorem UR {f:γ->α->Rs (Ctl ρ γ)}(P:Nat->γ->Prop):∀(as:List α) (k:Nat) (g:γ),P k g->(∀i a g,as[i]?=some a->P (k+i) g->∃g',f g a= .ok (.nx g')/\P (k+i+1) g')->∃g',forC as g f= .ok (.nx g')/\P (k+as.length) g'
 | [],k,g,h0,_=>⟨g,rfl,h0⟩
 |a::as,k,g,h0,hs=>by
  obtain⟨g1,e1,p1⟩:=hs 0 a g rfl h0
  obtain⟨g2,e2,p2⟩:=UR P as (k+1) g1 p1 λi b g hb hp=>by
   obtain⟨g',e',p'⟩:=hs (i+1) b g (by simpa using hb) (by rw[show k+(i+1)=k+1+i by (first|lia|omega)];exact hp)
   exact⟨g',e',by rw[show k+1+i+1=k+(i+1)+1 by (first|lia|omega)];exact p'⟩
  refine⟨g2,?_,by rw[List.length_cons,show k+(as.length+1)=k+1+as.length by (first|lia|omega)];exact p2⟩
  show(f g a).bind _=_
  rw[e1,Rs.ok_bind];exact e2
theorem CM {f:γ->α->Rs (Ctl ρ γ)}(P:Nat->γ->Prop){as:List α}{g:γ}(h0:P 0 g)(hs:∀i a g,as[i]?=some a->P i g->∃g',f g a= .ok (.nx g')/\P (i+1) g'):∃g',forC as g f= .ok (.nx g')/\P as.length g':=by
 have:=UR P as 0 g h0 (by simpa using hs)
 simpa using this
theorem Zg {a b:Int}(h:0<b):Qd a b= .ok (a % b):=XG h
theorem YQ {a b:Int}(h1: -(2^64)<a)(h2:a<2^64):QE a b= .ok (a*b):=XG (.inl ⟨h1,h2⟩)
theorem Ji {a b:Int}(h1: -(2^64)<b)(h2:b<2^64):QE a b= .ok (a*b):=XG (.inr ⟨h1,h2⟩)
theorem BE {a b:Int}(h:0<b)(h2:b<2^250):Ii a b= .ok (a/b):=XG ⟨h,by
 have h3:b.natAbs<2^250:=by (first|lia|omega)
 rcases Nat.eq_zero_or_pos b.natAbs with h0 |h0
 ·(first|lia|omega)
 ·have:=(Nat.log2_lt (by (first|lia|omega))).mpr h3
  (first|lia|omega)⟩
theorem U1 {a b:Int}(h0:0<=b)(h1:b<=1000000)(h2: -(2^64)<a)(h3:a<2^64):DC a b= .ok (a^b.toNat):=XG ⟨h0,h1,by (first|lia|omega)⟩
theorem XU {as:List α}{i:Nat}{a:α}(h:as[i]?=some a):atR as (i:Int)= .ok a:=by
 have hlt:=(List.getElem?_eq_some_iff.mp h).1
 unfold atR atI ixN
 rw[if_pos (by (first|lia|omega)),if_pos (by (first|lia|omega))]
 simp[h]
theorem II {as:List α}{i:Int}{a:α}(h0:0<=i)(h:as[i.toNat]?=some a):atR as i= .ok a:=by
 have:i=(i.toNat:Int):=by (first|lia|omega)
 rw[this];exact XU h
theorem ZA {n:Nat}(h:n<2^62):UD 0 (n:Int)= .ok ((List.range n).map λ(i:Nat)=>(i:Int)):=by
 unfold UD
 rw[XG (by (first|lia|omega))]
 unfold VH
 congr 1
 rw[Int.sub_zero,Int.toNat_natCast]
 exact List.map_congr_left λi _=>by (first|lia|omega)
theorem Zf {n i:Nat}{a:Int}(h:((List.range n).map λ(i:Nat)=>(i:Int))[i]?=some a):a=(i:Int)/\i<n:=by
 have hlt:=(List.getElem?_eq_some_iff.mp h).1
 simp only[List.length_map,List.length_range] at hlt
 rw[List.getElem?_map,List.getElem?_range hlt] at h
 exact⟨(Option.some.inj h).symm,hlt⟩
theorem UN {n:Nat}{a:Int}(h:a∈(List.range n).map λ(i:Nat)=>(i:Int)):∃i:Nat,i<n/\a=(i:Int):=by
 obtain⟨i,hi,rfl⟩:=List.mem_map.mp h
 exact⟨i,List.mem_range.mp hi,rfl⟩
theorem YU {n:Nat}:((List.range n).map λ(i:Nat)=>(i:Int)).length=n:=by simp
theorem BG {a:Bool}{b:Rs Bool}{c:Bool}(h:a=true->b= .ok c):Kg (.ok a) b= .ok (a&&c):=by
 cases a with
 |false=>rfl
 |true=>
  show(if true=true then b else Rs.ok false)=_
  rw[if_pos rfl,h rfl];rfl
theorem Vy {a:Bool}{b:Rs Bool}{c:Bool}(h:a=false->b= .ok c):orR (.ok a) b= .ok (a || c):=by
 cases a with
 |true=>rfl
 |false=>
  show(if false=true then Rs.ok true else b)=_
  rw[if_neg Bool.false_ne_true,h rfl];rfl
theorem sz {n:Nat}(h:n<=100000):n<=sizeLine:=Nat.le_trans h (by decide)
theorem Ki {n:Nat}(h:n<=100000):n<sizeLine:=Nat.lt_of_le_of_lt h (by decide)
noncomputable def Ok (m:Rs β)(R:β->Prop):Prop:=∃ r,m= .ok r/\R r
theorem Ok.pure {R:β->Prop}{a:β}(h:R a):Ok (.ok a) R:=⟨a,rfl,h⟩
theorem Ok.bind {m:Rs α}{f:α->Rs β}{R:α->Prop}{T:β->Prop}(h:Ok m R)(hf:∀a,R a->Ok (f a) T):Ok (m.bind f) T:=by
 obtain⟨a,e,ha⟩:=h
 rw[e];exact hf a ha
theorem Ok.imp {m:Rs α}{R T:α->Prop}(h:Ok m R)(hf:∀a,R a->T a):Ok m T:=by
 obtain⟨a,e,ha⟩:=h
 exact⟨a,e,hf a ha⟩
theorem Ok.noE {m:Rs α}{R:α->Prop}(h:Ok m R):Ok (noE m) R:=by
 obtain⟨a,e,ha⟩:=h
 rw[e];exact⟨a,rfl,ha⟩
theorem Ok.chk {c:Prop}[Decidable c]{m:Rs α}{R:α->Prop}(hc:c)(h:Ok m R):Ok (chk c m) R:=by rw[XG hc];exact h
theorem Ok.ite {b:Bool}{m n:Rs α}{R:α->Prop}(h1:b=true->Ok m R)(h2:b=false->Ok n R):Ok (if b=true then m else n) R:=by
 cases b with
 |true=>rw[if_pos rfl];exact h1 rfl
 |false=>rw[if_neg Bool.false_ne_true];exact h2 rfl
theorem Ok.forN {f:γ->α->Rs γ}(P:Nat->γ->Prop){as:List α}{g:γ}(h0:P 0 g)(hs:∀i a g,as[i]?=some a->P i g->Ok (f g a) (P (i+1))):Ok (forN as g f) (P as.length):=Go P h0 hs
theorem Ok.forC {f:γ->α->Rs (Ctl ρ γ)}(P:Nat->γ->Prop){as:List α}{g:γ}(h0:P 0 g)(hs:∀i a g,as[i]?=some a->P i g->∃g',f g a= .ok (.nx g')/\P (i+1) g'):Ok (forC as g f) (λc=>∃ g',c= .nx g'/\P as.length g'):=by
 obtain⟨g',e,h⟩:=CM P h0 hs
 exact⟨_,e,g',rfl,h⟩
theorem QO {f:γ->Rs ρ}(g:γ):Q2 f (.nx g)=f g:=(Eq.refl (f g)).symm.symm
theorem Fo {δ:Type}{f:γ->Rs (Ctl ρ δ)}(g:γ):Qp f (.nx g)=f g:=(Eq.refl (f g)).symm.symm
theorem Yq (a:α):noE (Rs.ok a)= .ok a:=(Eq.refl (Rs.ok a)).symm.symm
theorem Ok.of {m:Rs α}{a:α}(h:m= .ok a):Ok m (λb=>b=a):=⟨a,h,rfl⟩
theorem Ok.eq {m:Rs α}{a:α}(h:Ok m (λb=>b=a)):m= .ok a:=by
 obtain⟨b,e,rfl⟩:=h
 exact e
end
end L2
namespace My
structure Col (n:Nat)(f:Nat->Nat->Nat):Prop where
 lt:∀a b,a<n->b<n->f a b<n
 r2:∀x y b,x<n->y<n->b<n->f x b=f y b->x=y
structure GoodF (n:Nat)(f:Nat->Nat->Nat):Prop extends Col n f where
 r1:∀a,a<n->f a a=a
 r3:∀a b c,a<n->b<n->c<n->f (f a b) c=f (f a c) (f b c)
theorem GoodF.congr {n:Nat}{f g:Nat->Nat->Nat}(h:GoodF n f)(e:∀a b,a<n->b<n->g a b=f a b):GoodF n g where
 lt a b ha hb:=by rw[e a b ha hb];exact h.lt a b ha hb
 r2 x y b hx hy hb q:=by rw[e x b hx hb,e y b hy hb] at q;exact h.r2 x y b hx hy hb q
 r1 a ha:=by rw[e a a ha ha];exact h.r1 a ha
 r3 a b c ha hb hc:=by
  rw[e a b ha hb,e a c ha hc,e b c hb hc,e _ c (h.lt a b ha hb) hc,e _ _ (h.lt a c ha hc) (h.lt b c hb hc)]
  exact h.r3 a b c ha hb hc
structure PermN (n:Nat)(p q:Nat->Nat):Prop where
 lt:∀a,a<n->p a<n
 qlt:∀a,a<n->q a<n
 pq:∀a,a<n->p (q a)=a
 qp:∀a,a<n->q (p a)=a
theorem PermN.good {n:Nat}{p q:Nat->Nat}{f:Nat->Nat->Nat}(h:PermN n p q)(g:GoodF n f):GoodF n (λx y=>p (f (q x) (q y))) where
 lt a b ha hb:=h.lt _ (g.lt _ _ (h.qlt a ha) (h.qlt b hb))
 r2 x y b hx hy hb e:=by
  have e1:q (p (f (q x) (q b)))=q (p (f (q y) (q b))):=congrArg q e
  rw[h.qp _ (g.lt _ _ (h.qlt x hx) (h.qlt b hb)),h.qp _ (g.lt _ _ (h.qlt y hy) (h.qlt b hb))] at e1
  have:=g.r2 _ _ _ (h.qlt x hx) (h.qlt y hy) (h.qlt b hb) e1
  rw[←h.pq x hx, ←h.pq y hy,this]
 r1 a ha:=by
  show p (f (q a) (q a))=a
  rw[g.r1 _ (h.qlt a ha),h.pq a ha]
 r3 a b c ha hb hc:=by
  have l1:=g.lt _ _ (h.qlt a ha) (h.qlt b hb)
  have l2:=g.lt _ _ (h.qlt a ha) (h.qlt c hc)
  have l3:=g.lt _ _ (h.qlt b hb) (h.qlt c hc)
  show p (f (q (p (f (q a) (q b)))) (q c))=p (f (q (p (f (q a) (q c)))) (q (p (f (q b) (q c)))))
  rw[h.qp _ l1,h.qp _ l2,h.qp _ l3,g.r3 _ _ _ (h.qlt a ha) (h.qlt b hb) (h.qlt c hc)]
end My
namespace My
open PySem L2
theorem Qx {α:Type}{as:List α}{i:Nat}{a:α}(h:i<as.length):Qg as (i:Int) a= .ok (as.set i a):=by
 unfold Qg ixN
 rw[if_pos (by (first|lia|omega)),if_pos (by (first|lia|omega))]
 simp
noncomputable def BM (n:Nat)(sp:List Int)(p q:Nat->Nat):Prop:=PermN n p q/\sp=(List.range n).map λi=>((p i:Nat):Int)
theorem BM.get {n:Nat}{sp:List Int}{p q:Nat->Nat}(h:BM n sp p q){i:Nat}(hi:i<n):atR sp (i:Int)= .ok ((p i:Nat):Int):=XU (by rw[h.2,List.getElem?_map,List.getElem?_range hi];rfl)
theorem BC {as:List Int}{i:Nat}(h:i<as.length)(hl:as.length<=100000):VQ as (i:Int)= .ok (as[i],as.eraseIdx i):=by
 unfold VQ
 rw[XG (by (first|lia|omega))]
 have e:seqIndex? (i:Int) as.length=some i:=by
  unfold seqIndex?
  have h0:¬((i:Int)<0):=by (first|lia|omega)
  simp[h0,h]
 rw[e]
 simp[h]
theorem VD:∀{as:List Int}{i:Nat} (h:i<as.length),(as[i]::as.eraseIdx i).Perm as
 |a::as,0,_=>by simp
 |a::as,i+1,h=>by
  have:=VD (as:=as) (i:=i) (by simpa using h)
  simp only[List.getElem_cons_succ,List.eraseIdx_cons_succ]
  exact(List.Perm.swap _ _ _).trans (this.cons a)
theorem Cw {α:Type}(as:List α){k:Nat}(h:k<=as.length):Uc as (some (k:Int)) none=as.drop k:=by
 unfold Uc
 rw[HT.sIx_nat,HT.sIx_none,Nat.min_eq_left h,List.take_of_length_le (by rw[List.length_drop];(first|lia|omega))]
end My
namespace My
theorem Jr (names:List Int):(names.flatMap λx=>[x,-x]).length=2*names.length:=by
 induction names with
 |nil=>rfl
 |cons x r ih=>rw[List.flatMap_cons,List.length_append,ih];simp;(first|lia|omega)
theorem Jo {α:Type}:∀{l:List α}{k:Nat}{y:α},l[k]?=some y->(y::l.eraseIdx k).Perm l
 | [],_,_,e=>by simp at e
 |a::r,0,y,e=>by
  have e':a=y:=by simpa using e
  subst e';exact List.Perm.refl _
 |a::r,k+1,y,e=>by
  have e':r[k]?=some y:=by simpa using e
  show(y::a::r.eraseIdx k).Perm (a::r)
  exact(List.Perm.swap a y _).trans (List.Perm.cons a (Jo e'))
theorem Ke {α:Type}{l:List α}{k:Nat}{y:α}(e:l[k]?=some y):(l.eraseIdx k).length+1=l.length:=by
 have:=(Jo e).length_eq
 simpa using this
theorem K3 {α:Type}:∀{ws:List (List α)}{j:Nat}{w:List α}{y:α},ws[j]?=some w->((ws.set j (w++[y])).flatten).Perm (y::ws.flatten)
 | [],_,_,_,e=>by simp at e
 |a::r,0,w,y,e=>by
  have e':a=w:=by simpa using e
  subst e'
  show((a++[y])++r.flatten).Perm (y::(a++r.flatten))
  rw[List.append_assoc]
  exact List.perm_middle
 |a::r,j+1,w,y,e=>by
  have e':r[j]?=some w:=by simpa using e
  show(a++(r.set j (w++[y])).flatten).Perm (y::(a++r.flatten))
  exact(List.Perm.append_left a (K3 e')).trans List.perm_middle
theorem Fj {α:Type}{ws:List (List α)}{j k:Nat}{w l:List α}{y:α}(e:ws[j]?=some w)(e3:l[k]?=some y):((ws.set j (w++[y])).flatten++l.eraseIdx k).Perm (ws.flatten++l):=by
 refine((K3 (y:=y) e).append_right _).trans ?_
 rw[List.cons_append]
 refine List.perm_middle.symm.trans ?_
 exact List.Perm.append_left _ (Jo e3)
theorem mem_set {α:Type}:∀{l:List α}{j:Nat}{v x:α},x∈l.set j v->x∈l∨x=v
 | [],_,_,_,h=>by simp at h
 |a::r,0,v,x,h=>by
  rw[List.set_cons_zero] at h
  rcases List.mem_cons.mp h with h |h
  ·exact .inr h
  ·exact .inl (List.mem_cons_of_mem _ h)
 |a::r,j+1,v,x,h=>by
  rw[List.set_cons_succ] at h
  rcases List.mem_cons.mp h with h |h
  ·exact .inl (by rw[h];exact List.mem_cons_self)
  ·rcases mem_set h with h |h
   ·exact .inl (List.mem_cons_of_mem _ h)
   ·exact .inr h
theorem UI:∀{l:List Bool}{j:Nat},l[j]?=some false->(l.set j true).count false+1=l.count false
 | [],_,e=>by simp at e
 |a::r,0,e=>by
  have e':a=false:=by simpa using e
  subst e';simp
 |a::r,j+1,e=>by
  have e':r[j]?=some false:=by simpa using e
  have ih:=UI e'
  rw[List.set_cons_succ,List.count_cons,List.count_cons]
  (first|lia|omega)
end My
namespace My
noncomputable def KA (r:Int×Int)(at':Int):List Int:=if at'=r.1 then[r.2] else if at'=r.1+1 then[-r.2] else[]
noncomputable def VR (r:Int×Int)(at':Int):Int:=if at'=r.1 then r.1+1 else if at'=r.1+1 then r.1 else at'
noncomputable def Bb:List (Int×Int)->Int->Int
 | [],a=>a
 |r::rs,a=>Bb rs (VR r a)
noncomputable def KS:List (Int×Int)->Int->List Int
 | [],_=>[]
 |r::rs,a=>KA r a++KS rs (VR r a)
theorem De (rs:List (Int×Int))(r:Int×Int):∀a,Bb (rs++[r]) a=VR r (Bb rs a):=by
 induction rs with
 |nil=>intro a;rfl
 |cons q rs ih=>intro a;exact ih _
theorem Ff (rs:List (Int×Int))(r:Int×Int):∀a,KS (rs++[r]) a=KS rs a++KA r (Bb rs a):=by
 induction rs with
 |nil=>intro a;simp[KS,Bb]
 |cons q rs ih=>intro a;simp[KS,Bb,ih]
theorem KE {S:Int}{r:Int×Int}{a:Int}(h0:0<=r.1)(h1:r.1+1<S)(a0:0<=a)(a1:a<S):0<=VR r a/\VR r a<S:=by
 unfold VR
 split
 ·(first|lia|omega)
 ·split<;> (first|lia|omega)
noncomputable def G5 (S:Nat):List Int:=(List.range S).map λ(k:Nat)=>(k:Int)
theorem Qe {S:Nat}{x:Int}:x∈G5 S↔0<=x/\x<(S:Int):=by
 unfold G5
 rw[List.mem_map]
 constructor
 ·rintro⟨k,hk,rfl⟩
  have:=List.mem_range.mp hk
  (first|lia|omega)
 ·rintro⟨h0,h1⟩
  exact⟨x.toNat,List.mem_range.mpr (by (first|lia|omega)),by (first|lia|omega)⟩
theorem Z0 {α β:Type}{f:α->β}:∀{l:List α},(∀a b,a∈l->b∈l->f a=f b->a=b)->l.Nodup->(l.map f).Nodup
 | [],_,_=>List.nodup_nil
 |a::r,h,nd=>by
  rw[List.map_cons,List.nodup_cons]
  refine⟨λm=>?_,Z0 (λx y hx hy=>h x y (List.mem_cons_of_mem _ hx) (List.mem_cons_of_mem _ hy)) (List.nodup_cons.mp nd).2⟩
  obtain⟨b,hb,e⟩:=List.mem_map.mp m
  have:=h b a (List.mem_cons_of_mem _ hb) List.mem_cons_self e
  exact(List.nodup_cons.mp nd).1 (by rw[←this];exact hb)
theorem Qc (S:Nat):(G5 S).Nodup:=Z0 (λa b _ _ e=>by (first|lia|omega)) List.nodup_range
theorem Jc {α:Type}[DecidableEq α]:∀{l m:List α},l.Nodup->m.Nodup->(∀x,x∈l↔x∈m)->l.Perm m
 | [],m,_,_,h=>by
  cases m with
  |nil=>exact List.Perm.refl _
  |cons a r=>exact absurd ((h a).mpr List.mem_cons_self) (by simp)
 |a::r,m,nl,nm,h=>by
  have ha:a∈m:=(h a).mp List.mem_cons_self
  have hp:m.Perm (a::m.erase a):=List.perm_cons_erase ha
  refine List.Perm.trans (List.Perm.cons a ?_) hp.symm
  have nd2:(a::m.erase a).Nodup:=hp.nodup_iff.mp nm
  refine Jc (List.nodup_cons.mp nl).2 (List.nodup_cons.mp nd2).2 λx=>?_
  constructor
  ·intro hx
   have hxa:x≠a:=λe=>(List.nodup_cons.mp nl).1 (by rw[←e];exact hx)
   have:x∈a::m.erase a:=hp.mem_iff.mp ((h x).mp (List.mem_cons_of_mem _ hx))
   exact(List.mem_cons.mp this).resolve_left hxa
  ·intro hx
   have hxa:x≠a:=λe=>(List.nodup_cons.mp nd2).1 (e▸hx)
   have:x∈a::r:=(h x).mpr (hp.mem_iff.mpr (List.mem_cons_of_mem _ hx))
   exact(List.mem_cons.mp this).resolve_left hxa
theorem Df {S:Nat}{r:Int×Int}(h0:0<=r.1)(h1:r.1+1<(S:Int)):((G5 S).map (VR r)).Perm (G5 S):=by
 refine Jc (Z0 (λa b _ _ e=>?_) (Qc S)) (Qc S) λx=>?_
 ·unfold VR at e
  split at e<;> split at e<;> (try split at e)<;> (try split at e)<;> (first|lia|omega)
 ·rw[List.mem_map,Qe]
  constructor
  ·rintro⟨a,ha,rfl⟩
   have:=Qe.mp ha
   exact KE h0 h1 this.1 this.2
  ·rintro⟨x0,x1⟩
   refine⟨VR r x,Qe.mpr (KE h0 h1 x0 x1),?_⟩
   unfold VR
   split<;> (try split)<;> (try split)<;> (first|lia|omega)
theorem Zz {α β:Type}(f:α->List β){l m:List α}(h:l.Perm m):(l.flatMap f).Perm (m.flatMap f):=by
 induction h with
 |nil=>exact List.Perm.refl _
 |cons x _ ih=>rw[List.flatMap_cons,List.flatMap_cons];exact List.Perm.append_left _ ih
 |swap x y l=>
  rw[List.flatMap_cons,List.flatMap_cons,List.flatMap_cons,List.flatMap_cons, ←List.append_assoc, ←List.append_assoc]
  exact List.Perm.append_right _ List.perm_append_comm
 |trans _ _ ih1 ih2=>exact ih1.trans ih2
theorem J0 {α β:Type}(f g:α->List β):∀l:List α,(l.flatMap λx=>f x++g x).Perm (l.flatMap f++l.flatMap g)
 | []=>List.Perm.refl _
 |a::r=>by
  rw[List.flatMap_cons,List.flatMap_cons,List.flatMap_cons]
  refine(List.Perm.append_left _ (J0 f g r)).trans ?_
  rw[List.append_assoc,List.append_assoc]
  refine List.Perm.append_left _ ?_
  rw[←List.append_assoc, ←List.append_assoc]
  exact List.Perm.append_right _ List.perm_append_comm
theorem QC {α β:Type}(f:α->List β):∀{l:List α},(∀x∈l,f x=[])->l.flatMap f=[]
 | [],_=>rfl
 |a::r,h=>by rw[List.flatMap_cons,h a List.mem_cons_self,QC f λx hx=>h x (List.mem_cons_of_mem _ hx)];rfl
theorem Cm {S:Nat}{r:Int×Int}(h0:0<=r.1)(h1:r.1+1<(S:Int)):((G5 S).flatMap (KA r)).Perm [r.2,-r.2]:=by
 have ha:r.1∈G5 S:=Qe.mpr ⟨h0,by (first|lia|omega)⟩
 have hp:=List.perm_cons_erase ha
 have nd:=hp.nodup_iff.mp (Qc S)
 have hb:r.1+1∈(G5 S).erase r.1:=by
  have:r.1+1∈r.1::(G5 S).erase r.1:=hp.mem_iff.mp (Qe.mpr ⟨by (first|lia|omega),h1⟩)
  exact(List.mem_cons.mp this).resolve_left (by (first|lia|omega))
 have hq:=List.perm_cons_erase hb
 have nd2:=hq.nodup_iff.mp (List.nodup_cons.mp nd).2
 refine(Zz _ (hp.trans (List.Perm.cons _ hq))).trans ?_
 rw[List.flatMap_cons,List.flatMap_cons,QC]
 ·unfold KA
  rw[if_pos rfl,if_neg (by (first|lia|omega)),if_pos rfl]
  exact List.Perm.refl _
 ·intro x hx
  have x2:x≠r.1+1:=λe=>(List.nodup_cons.mp nd2).1 (e▸hx)
  have x1:x≠r.1:=λe=>(List.nodup_cons.mp nd).1 (e▸hq.mem_iff.mpr (List.mem_cons_of_mem _ hx))
  unfold KA
  rw[if_neg x1,if_neg x2]
theorem QB {α β γ:Type}(f:α->β)(g:β->List γ)(l:List α):(l.map f).flatMap g=l.flatMap λx=>g (f x):=by
 induction l with
 |nil=>rfl
 |cons a r ih=>rw[List.map_cons,List.flatMap_cons,List.flatMap_cons,ih]
theorem Ge {S:Nat}:∀{rs:List (Int×Int)},(∀r∈rs,0<=r.1/\r.1+1<(S:Int))->((G5 S).flatMap (KS rs)).Perm (rs.flatMap λr=>[r.2,-r.2])
 | [],_=>by rw[QC (KS []) (λx _=>rfl)];exact List.Perm.refl _
 |r::rs,h=>by
  obtain⟨h0,h1⟩:=h r List.mem_cons_self
  rw[List.flatMap_cons]
  refine(J0 (KA r) (λa=>KS rs (VR r a)) (G5 S)).trans ?_
  refine List.Perm.append (Cm h0 h1) ?_
  rw[←QB (VR r) (KS rs)]
  exact(Zz _ (Df h0 h1)).trans (Ge λq hq=>h q (List.mem_cons_of_mem _ hq))
theorem B4 {x s:Int}(h:s=1∨s= -1): [x*s,-(x*s)].Perm [x,-x]:=by
 rcases h with h |h
 ·subst h;simp
 ·subst h
  have e1:x* -1= -x:=by (first|lia|omega)
  have e2: -(-x)=x:=by (first|lia|omega)
  rw[e1,e2]
  exact List.Perm.swap _ _ _
theorem QW {α β:Type}{f g:α->List β}:∀{l:List α},(∀x∈l,(f x).Perm (g x))->(l.flatMap f).Perm (l.flatMap g)
 | [],_=>List.Perm.refl _
 |a::r,h=>by
  rw[List.flatMap_cons,List.flatMap_cons]
  exact List.Perm.append (h a List.mem_cons_self) (QW λx hx=>h x (List.mem_cons_of_mem _ hx))
end My
namespace My
theorem B5 {r:Int×Int}{a:Int}(h:a=r.1):KA r a=[r.2]:=by unfold KA;rw[if_pos h]
theorem E8 {r:Int×Int}{a:Int}(h:a=r.1+1):KA r a=[-r.2]:=by unfold KA;rw[if_neg (by (first|lia|omega)),if_pos h]
theorem EB {r:Int×Int}{a:Int}(h:¬a=r.1)(h2:¬a=r.1+1):KA r a=[]:=by unfold KA;rw[if_neg h,if_neg h2]
theorem Ep {r:Int×Int}{a:Int}(h:a=r.1):VR r a=r.1+1:=by unfold VR;rw[if_pos h]
theorem Ez {r:Int×Int}{a:Int}(h:a=r.1+1):VR r a=r.1:=by unfold VR;rw[if_neg (by (first|lia|omega)),if_pos h]
theorem B8 {r:Int×Int}{a:Int}(h:¬a=r.1)(h2:¬a=r.1+1):VR r a=a:=by unfold VR;rw[if_neg h,if_neg h2]
structure Done (S:Int)(seen:List Bool)(ps:List Int):Prop where
 nd:ps.Nodup
 at':∀p∈ps,0<=p/\p<S/\seen[p.toNat]?=some true
 of:∀q:Nat,seen[q]?=some true->(q:Int)∈ps
theorem Done.none (S:Int)(n:Nat):Done S (List.replicate n false) []:=
 ⟨List.nodup_nil,λp h=>by simp at h,λq h=>by
  rw[List.getElem?_replicate] at h
  split at h<;> cases h⟩
theorem VY {l:List Bool}{j q:Nat}(h:l[q]?=some true):(l.set j true)[q]?=some true:=by
 by_cases e:j=q
 ·subst e
  rw[List.getElem?_set_self (List.getElem?_eq_some_iff.mp h).1]
 ·rw[List.getElem?_set_ne e];exact h
theorem Done.snoc {S:Int}{seen:List Bool}{ps:List Int}{a:Int}(h:Done S seen ps)(a0:0<=a)(a1:a<S)(e:seen[a.toNat]?=some false):Done S (seen.set a.toNat true) (ps++[a]):=by
 have hl:a.toNat<seen.length:=(List.getElem?_eq_some_iff.mp e).1
 have hn:a∉ps:=λm=>by
  have:=(h.at' a m).2.2
  rw[e] at this;cases this
 refine⟨?_,λp hp=>?_,λq hq=>?_⟩
 ·rw[List.nodup_append]
  refine⟨h.nd,by simp,λx hx y hy=>?_⟩
  rw[List.mem_singleton.mp hy]
  exact λe=>hn (e▸hx)
 ·rcases List.mem_append.mp hp with hp |hp
  ·obtain⟨h1,h2,h3⟩:=h.at' p hp
   exact⟨h1,h2,VY h3⟩
  ·rw[List.mem_singleton.mp hp]
   exact⟨a0,a1,by rw[List.getElem?_set_self hl]⟩
 ·by_cases hqa:a.toNat=q
  ·exact List.mem_append_right _ (List.mem_singleton.mpr (by (first|lia|omega)))
  ·rw[List.getElem?_set_ne hqa] at hq
   exact List.mem_append_left _ (h.of q hq)
theorem Done.all {S:Int}{seen:List Bool}{ps:List Int}(h:Done S seen ps)(hl:seen.length=S.toNat)(h0:0<=S)(ha:∀q:Nat,q<S.toNat->seen[q]?=some true):ps.Perm (G5 S.toNat):=by
 refine Jc h.nd (Qc _) λx=>?_
 rw[Qe]
 constructor
 ·intro hx
  obtain⟨h1,h2,_⟩:=h.at' x hx
  (first|lia|omega)
 ·rintro⟨x0,x1⟩
  have:=h.of x.toNat (ha x.toNat (by (first|lia|omega)))
  rw[show((x.toNat:Nat):Int)=x by (first|lia|omega)] at this
  exact this
theorem KY {seen:List Bool}{i:Nat}(h:∀q:Nat,q<i->seen[q]?=some true)(hi:seen[i]?=some true):∀q:Nat,q<i+1->seen[q]?=some true:=λq hq=>by
 by_cases e:q=i
 ·subst e;exact hi
 ·exact h q (by (first|lia|omega))
end My
namespace My
open PySem L2
theorem Dw (ns:List Int){p:Int}(hp:0<=p):∃c,JV ns p= .ok c:=by
 unfold JV
 simp only[Rs.okb]
 by_cases h:p<(ns.length:Int)
 ·rw[decide_eq_true h,if_pos rfl]
  have hl:p.toNat<ns.length:=by (first|lia|omega)
  exact⟨ns[p.toNat],II hp (by simp[hl])⟩
 ·rw[decide_eq_false h,if_neg Bool.false_ne_true]
  obtain⟨g,e,_⟩:=Go (as:=Uc ns none (some 63)) (g:=(5:Int)) (f:=λg15 a17=>(Rs.bind (Rs.bind (Rs.bind (Rs.bind (QE g15 48271) λx25=>(Rs.bind (Qd a17 1000003) λx26=>(Rs.ok (x25+x26)))) λx27=>Rs.ok (x27+1)) λx29=>Qd x29 2147483647) λa19=>(Rs.ok (a19)))) (λ_ _=>True) True.intro λi a g _ _=>by
   rw[Ji (by decide) (by decide),Rs.ok_bind,Zg (by decide),Rs.ok_bind,Rs.ok_bind,Rs.ok_bind,Zg (by decide),Rs.ok_bind]
   exact⟨_,rfl,True.intro⟩
  rw[e,Rs.ok_bind,YQ (by decide) (by decide),Rs.ok_bind,Rs.ok_bind,Zg (by decide)]
  exact⟨_,rfl⟩
theorem Bx (c:Int){k:Int}(h0:0<=k)(h1:k<=100000):∃y,Ks c k= .ok y/\0<=y:=by
 unfold Ks
 simp only[Rs.okb]
 have hm:0<=c % 2147483629/\c % 2147483629<2147483629:=⟨Int.emod_nonneg _ (by decide),Int.emod_lt_of_pos _ (by decide)⟩
 rw[Zg (by decide),Rs.ok_bind,YQ (by decide) (by decide),Rs.ok_bind,Rs.ok_bind,Rs.ok_bind,U1 (by decide) (by decide) (by (first|lia|omega)) (by (first|lia|omega)),Rs.ok_bind,Zg (by decide),Rs.ok_bind]
 rw[Ji (by decide) (by decide),Rs.ok_bind,YQ (by decide) (by decide),Rs.ok_bind,Ji (by (first|lia|omega)) (by (first|lia|omega)),Rs.ok_bind,Rs.ok_bind,Rs.ok_bind,Zg (by decide),Rs.ok_bind,BE (by decide) (by decide)]
 exact⟨_,rfl,Int.ediv_nonneg (Int.emod_nonneg _ (by decide)) (by decide)⟩
theorem F5 (ns:List Int){p:Int}(hp:0<=p)(sizes:List Int)(hl:sizes.length<=100000)(hs:∀x∈sizes,0<x/\x<2^250):
  Ok (Uh ns p sizes) λr=>r.length=sizes.length/\∀(i:Nat) x s,r[i]?=some x->sizes[i]?=some s->0<=x/\x<s:=by
 obtain⟨c,ec⟩:=Dw ns hp
 unfold Uh
 simp only[Rs.okb]
 rw[ec,show noE (Rs.ok c)= .ok c from rfl,Rs.ok_bind,ZA (by (first|lia|omega)),Rs.ok_bind,U1 (by decide) (by decide) (by decide) (by decide)]
 simp only[Rs.okb]
 have key:∀(i:Nat) (a:Int) (g:List Int×Int),((List.range sizes.length).map λ(i:Nat)=>(i:Int))[i]?=some a->(g.1.length=i/\∀(j:Nat) x s,g.1[j]?=some x->sizes[j]?=some s->0<=x/\x<s)->∀y z:Int,∀s,sizes[i]?=some s->0<=y/\y<s->((g.1++[y],z).1.length=i+1/\∀(j:Nat) x s,(g.1++[y],z).1[j]?=some x->sizes[j]?=some s->0<=x/\x<s):=by
  intro i a g ha ⟨hg,hq⟩ y z s hs1 hy
  refine⟨by simp[hg],λj x s' hx hs'=>?_⟩
  have hx:(g.1++[y])[j]?=some x:=hx
  rcases Nat.lt_trichotomy j i with hj |hj |hj
  ·rw[List.getElem?_append_left (by (first|lia|omega))] at hx;exact hq j x s' hx hs'
  ·subst hj
   rw[List.getElem?_append_right (by (first|lia|omega)),hg,Nat.sub_self] at hx
   have:y=x:=by simpa using hx
   rw[hs1] at hs'
   cases hs'
   rw[←this];exact hy
  ·rw[List.getElem?_eq_none (by simp;(first|lia|omega))] at hx;cases hx
 refine Ok.bind (Ok.forN (λi (g:List Int×Int)=>g.1.length=i/\∀(j:Nat) x s,g.1[j]?=some x->sizes[j]?=some s->0<=x/\x<s) ⟨rfl,λj x s h _=>by simp at h⟩ λi a g ha hg=>?_) (T:=λ(r:List Int)=>r.length=sizes.length/\∀(i:Nat) x s,r[i]?=some x->sizes[i]?=some s->0<=x/\x<s) λg ⟨hg,hq⟩=>?_
 ·obtain⟨rfl,hi⟩:=Zf ha
  have hsz:sizes[i]?=some sizes[i]:=by simp[hi]
  have hsp:=hs _ (List.getElem_mem hi)
  have hgl:g.1.length<sizeLine:=Ki (by have:=hg.1;(first|lia|omega))
  by_cases hc:c<10^(18:Int).toNat
  ·rw[decide_eq_true hc,if_pos rfl]
   obtain⟨y,ey,hy⟩:=Bx c (k:=(i:Int)) (by (first|lia|omega)) (by (first|lia|omega))
   rw[ey,show noE (Rs.ok y)= .ok y from rfl,Rs.ok_bind,XU hsz,Rs.ok_bind,Zg hsp.1,Rs.ok_bind,XG hgl]
   exact⟨_,rfl,key i _ g ha hg _ _ _ hsz ⟨Int.emod_nonneg _ (by (first|lia|omega)),Int.emod_lt_of_pos _ hsp.1⟩⟩
  ·rw[decide_eq_false hc,if_neg Bool.false_ne_true]
   by_cases hq:0<g.2
   ·rw[decide_eq_true hq,if_pos rfl,XU hsz,Rs.ok_bind,Zg hsp.1,Rs.ok_bind,XG hgl]
    simp only[Rs.okb]
    rw[BE hsp.1 hsp.2]
    exact⟨_,rfl,key i _ g ha hg _ _ _ hsz ⟨Int.emod_nonneg _ (by (first|lia|omega)),Int.emod_lt_of_pos _ hsp.1⟩⟩
   ·rw[decide_eq_false hq,if_neg Bool.false_ne_true,Zg (by decide),Rs.ok_bind]
    obtain⟨c2,ec2⟩:=Dw ns (p:=(p+1+(i:Int)) % 63) (Int.emod_nonneg _ (by decide))
    obtain⟨y,ey,hy⟩:=Bx c2 (k:=(i:Int)) (by (first|lia|omega)) (by (first|lia|omega))
    rw[ec2,show noE (Rs.ok c2)= .ok c2 from rfl,Rs.ok_bind,ey,show noE (Rs.ok y)= .ok y from rfl,Rs.ok_bind,XU hsz,Rs.ok_bind,Zg hsp.1,Rs.ok_bind,XG hgl]
    exact⟨_,rfl,key i _ g ha hg _ _ _ hsz ⟨Int.emod_nonneg _ (by (first|lia|omega)),Int.emod_lt_of_pos _ hsp.1⟩⟩
 ·rw[YU] at hg
  exact⟨g.1,rfl,hg,hq⟩
theorem Zm {α:Type}{r:List α}{k:Int}{n:Nat}(e:k=(n:Int))(h:n<r.length):atR r k= .ok r[n]:=by
 subst e;exact XU (by simp[h])
theorem Gr {γ:Type}{c:γ->Rs Bool}{f:γ->Rs γ}(P:γ->Prop)(μ:γ->Nat)(hs:∀g,P g->∃b,c g= .ok b/\(b=true->Ok (f g) λg'=>P g'/\μ g'<μ g)):∀(n:Nat) (g:γ),P g->μ g<n->Ok (JN n g c f) λg'=>P g'/\c g'= .ok false
 |0,_,_,h=>by (first|lia|omega)
 |n+1,g,hp,hm=>by
  obtain⟨b,hb,h⟩:=hs g hp
  show Ok ((c g).bind _) _
  rw[hb,Rs.okb]
  cases b with
  |false=>rw[if_neg Bool.false_ne_true];exact⟨g,rfl,hp,hb⟩
  |true=>
   rw[if_pos rfl]
   exact Ok.bind (h rfl) λg' h'=>Gr P μ hs n g' h'.1 (by (first|lia|omega))
theorem CY {ns r:List Int}(hl:ns.length<=100)(hr:8*ns.length+3<=r.length):Ok (Q3 ns r) λl=>l.Perm ns:=by
 unfold Q3
 simp only[Rs.okb]
 rw[ZA (by (first|lia|omega))]
 simp only[Rs.okb]
 refine Ok.bind (Ok.forN (λi (g:List Int×List Int)=>g.1.length=i/\(g.1++g.2).Perm ns) ⟨rfl,List.Perm.refl _⟩ λi a g ha hg=>?_) λg hg=>?_
 ·obtain⟨rfl,hi⟩:=Zf ha
  obtain⟨h1,h2⟩:=hg
  have hl:=h2.length_eq
  simp only[List.length_append] at hl
  rw[YQ (by decide) (by decide)]
  simp only[Rs.okb]
  rw[Zm (r:=r) (n:=8*i+9) (by (first|lia|omega)) (by (first|lia|omega))]
  simp only[Rs.okb]
  have hpos:(0:Int)<(g.2.length:Int):=by (first|lia|omega)
  generalize r[8*i+9]=y
  have hm1:=Int.emod_nonneg y (show(g.2.length:Int)≠0 by (first|lia|omega))
  have hm2:=Int.emod_lt_of_pos y hpos
  rw[Zg hpos,Rs.okb]
  generalize hk:y % (g.2.length:Int)=k at hm1 hm2
  obtain⟨j,rfl⟩:∃j:Nat,k=j:=⟨k.toNat,by (first|lia|omega)⟩
  have hj:j<g.2.length:=by (first|lia|omega)
  rw[BC hj (by (first|lia|omega)),Rs.okb,XG (Ki (by (first|lia|omega)))]
  refine⟨_,rfl,by simp[h1],?_⟩
  refine List.Perm.trans ?_ h2
  show((g.1++[g.2[j]])++g.2.eraseIdx j).Perm (g.1++g.2)
  rw[List.append_assoc]
  exact(VD hj).append_left _
 ·obtain⟨h1,h2⟩:=hg
  rw[YU] at h1
  have hl:=h2.length_eq
  simp only[List.length_append] at hl
  have:g.2=[]:=List.length_eq_zero_iff.mp (by (first|lia|omega))
  rw[this,List.append_nil] at h2
  exact⟨_,rfl,h2⟩
theorem Iw {ns r:List Int}{rings:Nat}(hl:ns.length<=100)(hr:8*ns.length+3<=r.length)(hg:ns≠ []->1<=rings)(hg2:rings<=100):Ok (G4 ns r (rings:Int)) λws=>ws.length=rings/\ws.flatten.Perm (ns.flatMap λx=>[x,-x]):=by
 unfold G4
 simp only[Rs.okb]
 refine Ok.bind (Ok.forN (λi (g:List Int)=>g=(ns.take i).flatMap λx=>[x,-x]) rfl λi a g ha hg=>?_) λg hgg=>?_
 ·have hi:=(List.getElem?_eq_some_iff.mp ha).1
  subst hg
  rw[XG (show[a,-a].length<=sizeLine from sz (by simp)),Rs.okb,XG (sz (by rw[Jr];simp;(first|lia|omega)))]
  refine⟨_,rfl,?_⟩
  rw[List.take_add_one,ha]
  simp
 rw[List.take_length] at hgg
 subst hgg
 rw[ZA (by (first|lia|omega))]
 simp only[Rs.okb]
 rw[Qw (h:=λ_=>([]:List Int)) (sz (by simp;(first|lia|omega))) λ_ _=>rfl]
 simp only[Rs.okb]
 rw[YQ (by decide) (by decide),Rs.okb,show(2:Int)*(ns.length:Int)=((2*ns.length:Nat):Int) by (first|lia|omega),ZA (by (first|lia|omega))]
 simp only[Rs.okb]
 refine Ok.bind (Ok.forN (λi (g:List Int×List (List Int))=>g.2.length=rings/\g.1.length+i=2*ns.length/\(∀w∈g.2,w.length<=i)/\(g.2.flatten++g.1).Perm (ns.flatMap λx=>[x,-x])) ⟨by simp,by rw[Jr];rfl,λw hw=>?_,?_⟩ λi a g ha hg=>?_) λg hg=>?_
 ·obtain⟨_,_,rfl⟩:=List.mem_map.mp hw
  exact Nat.zero_le _
 ·have:∀l:List Int,(l.map λ_=>([]:List Int)).flatten=[]:=λl=>by simp
  rw[this];exact List.Perm.refl _
 ·obtain⟨rfl,hi⟩:=Zf ha
  obtain⟨h1,h2,h3,h4⟩:=hg
  have hne:1<=rings:=by
   refine ‹ns≠ []->1<=rings› λe=>?_
   rw[e] at hi;simp at hi
  rw[YQ (by decide) (by decide)]
  simp only[Rs.okb]
  rw[Zm (r:=r) (n:=4*i+5) (by (first|lia|omega)) (by (first|lia|omega))]
  simp only[Rs.okb]
  have hpos:(0:Int)<(g.1.length:Int):=by (first|lia|omega)
  generalize r[4*i+5]=y
  have hm1:=Int.emod_nonneg y (show(g.1.length:Int)≠0 by (first|lia|omega))
  have hm2:=Int.emod_lt_of_pos y hpos
  rw[Zg hpos,Rs.okb]
  generalize hk:y % (g.1.length:Int)=k at hm1 hm2
  obtain⟨j,rfl⟩:∃j:Nat,k=j:=⟨k.toNat,by (first|lia|omega)⟩
  have hj:j<g.1.length:=by (first|lia|omega)
  rw[BC hj (by (first|lia|omega)),Rs.okb]
  simp only[Rs.okb]
  rw[Zm (r:=r) (n:=4*i+6) (by (first|lia|omega)) (by (first|lia|omega))]
  simp only[Rs.okb]
  generalize r[4*i+6]=y2
  have hp2:(0:Int)<(rings:Int):=by (first|lia|omega)
  have hn1:=Int.emod_nonneg y2 (show(rings:Int)≠0 by (first|lia|omega))
  have hn2:=Int.emod_lt_of_pos y2 hp2
  rw[Zg hp2,Rs.okb]
  generalize hk2:y2 % (rings:Int)=k2 at hn1 hn2
  obtain⟨q,rfl⟩:∃q:Nat,k2=q:=⟨k2.toNat,by (first|lia|omega)⟩
  have hq:q<g.2.length:=by (first|lia|omega)
  have hw:=h3 g.2[q] (List.getElem_mem hq)
  rw[Zm (n:=q) rfl hq,Rs.okb,XG (Ki (by (first|lia|omega))),Qx hq,Rs.okb]
  have hjs:g.1[j]?=some g.1[j]:=by simp[hj]
  have hqs:g.2[q]?=some g.2[q]:=by simp[hq]
  refine⟨_,rfl,by simp[h1],?_,λw hw'=>?_,(Fj hqs hjs).trans h4⟩
  ·have:=Ke hjs
   show(g.1.eraseIdx j).length+(i+1)=_
   (first|lia|omega)
  ·rcases mem_set hw' with h |h
   ·have:=h3 w h;(first|lia|omega)
   ·rw[h];simp;(first|lia|omega)
 ·obtain⟨h1,h2,h3,h4⟩:=hg
  rw[YU] at h2
  have:g.1=[]:=List.length_eq_zero_iff.mp (by (first|lia|omega))
  rw[this,List.append_nil] at h4
  exact⟨_,rfl,h1,h4⟩
noncomputable def Vg (ns r:List Int)(sg:Int->Int)(S:Int):List (Int×Int):=(List.range ns.length).map λk=>(r.getD (8*k+10) 0 % (S-1),ns.getD k 0*sg (ns.getD k 0))
theorem GJ {ns r:List Int}{sg:Int->Int}{S:Int}{k:Nat}(h:k<ns.length)(h2:8*k+10<r.length):(Vg ns r sg S)[k]?=some (r[8*k+10] % (S-1),ns[k]*sg ns[k]):=by
 unfold Vg
 rw[List.getElem?_map,List.getElem?_range h]
 simp[h,h2]
theorem GL {ns r:List Int}{d:List (Int×Int)}{sg:Int->Int}{S:Nat}(hl:ns.length<=100)(hr:8*ns.length+3<=r.length)(hd:∀x∈ns,Yw d x=some (sg x))(hs:∀x∈ns,sg x=1∨sg x= -1)(h2:2<=S)(h4:S<=100):Ok (ZL ns d r (S:Int)) λws=>ws.length<=S/\ws.flatten.Perm (ns.flatMap λx=>[x,-x]):=by
 have hrs:∀q∈Vg ns r sg (S:Int),0<=q.1/\q.1+1<(S:Int):=λq hq=>by
  obtain⟨k,_,rfl⟩:=List.mem_map.mp hq
  have hp:(0:Int)<(S:Int)-1:=by (first|lia|omega)
  have hm1:=Int.emod_nonneg (r.getD (8*k+10) 0) (show((S:Int)-1)≠0 by (first|lia|omega))
  have hm2:=Int.emod_lt_of_pos (r.getD (8*k+10) 0) hp
  show 0<=_ % _/\_ % _+1<_
  (first|lia|omega)
 have hrl:(Vg ns r sg (S:Int)).length=ns.length:=by simp[Vg]
 have hin:∀(rs:List (Int×Int)),(∀q∈rs,0<=q.1/\q.1+1<(S:Int))->∀a:Int,0<=a->a<(S:Int)->0<=Bb rs a/\Bb rs a<(S:Int):=by
  intro rs
  induction rs with
  |nil=>intro _ a h0 h1;exact⟨h0,h1⟩
  |cons q rs ih=>
   intro hq a h0 h1
   have h:=KE (hq q (by simp)).1 (hq q (by simp)).2 h0 h1
   exact ih (λx hx=>hq x (by simp[hx])) _ h.1 h.2
 have hcl:∀(rs:List (Int×Int)) (a:Int),(KS rs a).length<=rs.length:=by
  intro rs
  induction rs with
  |nil=>intro a;exact Nat.le_refl _
  |cons q rs ih=>
   intro a
   show(KA q a++KS rs (VR q a)).length<=_
   have h1:(KA q a).length<=1:=by
    unfold KA
    split
    ·simp
    ·split<;> simp
   have:=ih (VR q a)
   simp only[List.length_append,List.length_cons]
   (first|lia|omega)
 unfold ZL
 simp only[Rs.okb]
 rw[XG (show[false].length<=sizeLine from sz (by simp)),Rs.okb,show Ca [false] (S:Int)= .ok (List.replicate S false) from ?_]
 rotate_left
 ·unfold Ca
  rw[XG ⟨by (first|lia|omega),by (first|lia|omega),sz (by simp;(first|lia|omega))⟩,Int.toNat_natCast]
  congr 1
  clear h2 h4 hrs hin hrl
  induction S with
  |zero=>rfl
  |succ n ih=>rw[List.replicate_succ,List.flatten_cons,ih,List.replicate_succ];rfl
 rw[Rs.okb,ZA (by (first|lia|omega)),Rs.okb]
 generalize hR:Vg ns r sg (S:Int)=rs at hrs hrl
 refine Ok.bind (Ok.forN (λi (g:List Bool×List (List Int))=>g.1.length=S/\g.2.length<=i/\(∀q:Nat,q<i->g.1[q]?=some true)/\∃ps,Done (S:Int) g.1 ps/\g.2.flatten=ps.flatMap (KS rs)) ⟨by simp,Nat.le_refl _,λq hq=>by (first|lia|omega),[],Done.none _ _,rfl⟩ λi a g ha hg=>?_) λg hg=>?_
 ·obtain⟨rfl,hi⟩:=Zf ha
  obtain⟨g1,g2,g3,ps,g4,g5⟩:=hg
  have hi1:i<g.1.length:=by (first|lia|omega)
  rw[Zm (n:=i) rfl hi1]
  simp only[Rs.okb]
  cases hb:g.1[i] with
  |true=>
   rw[show(!true)=false from rfl,if_neg Bool.false_ne_true]
   simp only[Rs.okb]
   exact⟨_,rfl,g1,by show g.2.length<=_;(first|lia|omega),KY g3 (by simp[hi1,hb]),ps,g4,g5⟩
  |false=>
   rw[show(!false)=true from rfl,if_pos rfl]
   refine Ok.bind (R:=λg':List Bool×List (List Int)=>g'.1.length=S/\g'.2.length<=i+1/\(∀q:Nat,q<i+1->g'.1[q]?=some true)/\∃ps,Done (S:Int) g'.1 ps/\g'.2.flatten=ps.flatMap (KS rs)) (Ok.bind (Gr (λg':List Bool×Int×List Int=>g'.1.length=S/\0<=g'.2.1/\g'.2.1<(S:Int)/\(∀q:Nat,g.1[q]?=some true->g'.1[q]?=some true)/\((g'.2.1=(i:Int)/\g'.1[i]?=some false)∨g'.1[i]?=some true)/\g'.2.2.length+100*g'.1.count false<=100*S/\∃qs,Done (S:Int) g'.1 (ps++qs)/\g'.2.2=qs.flatMap (KS rs)) (λg'=>g'.1.count false) (λg' hg'=>?_) _ (g.1,(i:Int),[]) ⟨g1,by show(0:Int)<=(i:Int);(first|lia|omega),by show(i:Int)<(S:Int);(first|lia|omega),λq h=>h, .inl ⟨rfl,by simp[hi1,hb]⟩,by
    have:g.1.count false<=g.1.length:=List.count_le_length
    show 0+100*g.1.count false<=100*S
    (first|lia|omega),[],by rw[List.append_nil];exact g4,rfl⟩ ?_) λg' hg'=>?_) λg' hg'=>?_
   ·obtain⟨w1,w2,w3,w4,w5,w8,qs,w6,w7⟩:=hg'
    obtain⟨p,hp⟩:∃p:Nat,g'.2.1=(p:Int):=⟨g'.2.1.toNat,by (first|lia|omega)⟩
    have hpl:p<g'.1.length:=by (first|lia|omega)
    rw[Zm hp hpl]
    refine⟨_,rfl,λhf=>?_⟩
    have hf':g'.1[p]=false:=by simpa using hf
    have hfs:g'.1[p]?=some false:=by simp[hpl,hf']
    rw[hp,Qx hpl]
    simp only[Rs.okb]
    rw[ZA (by (first|lia|omega))]
    simp only[Rs.okb]
    refine Ok.bind (Ok.forN (λk (h:Int×List Int)=>h.1=Bb (rs.take k) (p:Int)/\h.2=g'.2.2++KS (rs.take k) (p:Int)) ⟨rfl,by rw[List.take_zero];exact(List.append_nil _).symm⟩ λk b h hb' hh=>?_) λh hh=>?_
    ·obtain⟨rfl,hk⟩:=Zf hb'
     obtain⟨e1,e2⟩:=hh
     have hq:=GJ (sg:=sg) (S:=(S:Int)) hk (show 8*k+10<r.length by (first|lia|omega))
     rw[hR] at hq
     have hts:rs.take (k+1)=rs.take k++[(r[8*k+10] % ((S:Int)-1),ns[k]*sg ns[k])]:=by rw[List.take_add_one,hq];rfl
     rw[hts,De,Ff, ←e1]
     rw[YQ (by decide) (by decide)]
     simp only[Rs.okb]
     rw[Zm (r:=r) (n:=8*k+10) (by (first|lia|omega)) (by (first|lia|omega))]
     simp only[Rs.okb]
     rw[Zg (by (first|lia|omega))]
     simp only[Rs.okb]
     rw[Zm (r:=ns) (n:=k) rfl hk]
     simp only[Rs.okb]
     have hgd:Vx d ns[k]= .ok (sg ns[k]):=by unfold Vx;rw[hd _ (List.getElem_mem hk)];rfl
     have hsg:=hs _ (List.getElem_mem hk)
     rw[hgd]
     simp only[Rs.okb]
     rw[Ji (a:=ns[k]) (by (first|lia|omega)) (by (first|lia|omega)),Ji (a:=-ns[k]) (by (first|lia|omega)) (by (first|lia|omega))]
     simp only[Rs.okb]
     have hlen:h.2.length<sizeLine:=Ki (by
      have:=hcl (rs.take k) (p:Int)
      rw[List.length_take] at this
      rw[e2,List.length_append];(first|lia|omega))
     rw[XG hlen,XG hlen]
     generalize r[8*k+10] % ((S:Int)-1)=low
     by_cases c1:h.1=low
     ·rw[if_pos (decide_eq_true c1)]
      simp only[Rs.okb]
      refine⟨_,rfl,?_,?_⟩
      ·rw[Ep c1]
      ·rw[B5 c1,e2,List.append_assoc]
     ·rw[if_neg (by rw[decide_eq_false c1];exact Bool.false_ne_true)]
      by_cases c2:h.1=low+1
      ·rw[if_pos (decide_eq_true c2)]
       simp only[Rs.okb]
       refine⟨_,rfl,?_,?_⟩
       ·rw[Ez c2]
       ·rw[E8 c2,e2,List.append_assoc,Int.neg_mul]
      ·rw[if_neg (by rw[decide_eq_false c2];exact Bool.false_ne_true)]
       simp only[Rs.okb]
       refine⟨_,rfl,?_,?_⟩
       ·rw[B8 c1 c2]
       ·rw[EB c1 c2,List.append_nil,e2]
    ·rw[YU, ←hrl,List.take_length] at hh
     obtain⟨e1,e2⟩:=hh
     have hpr:=hin rs hrs (p:Int) (by (first|lia|omega)) (by (first|lia|omega))
     have hct:=UI hfs
     have hcl':=hcl rs (p:Int)
     refine⟨_,rfl,⟨?_,?_,?_,?_,?_,?_,qs++[(p:Int)],?_,?_⟩,?_⟩
     ·show(g'.1.set p true).length=S
      rw[List.length_set];exact w1
     ·show 0<=h.1
      rw[e1];exact hpr.1
     ·show h.1<_
      rw[e1];exact hpr.2
     ·exact λq hq=>VY (w4 q hq)
     ·refine .inr ?_
      show(g'.1.set p true)[i]?=some true
      rcases w5 with⟨h1,_⟩ |h1
      ·have:p=i:=by (first|lia|omega)
       subst this
       rw[List.getElem?_set_self hpl]
      ·exact VY h1
     ·show h.2.length+100*(g'.1.set p true).count false<=100*S
      rw[e2,List.length_append];(first|lia|omega)
     ·rw[←List.append_assoc]
      have:=w6.snoc (a:=(p:Int)) (by (first|lia|omega)) (by (first|lia|omega)) (by rw[Int.toNat_natCast];exact hfs)
      rwa [Int.toNat_natCast] at this
     ·show h.2=_
      rw[e2,w7,List.flatMap_append]
      simp
     ·show(g'.1.set p true).count false<g'.1.count false
      (first|lia|omega)
   ·have:g.1.count false<=g.1.length:=List.count_le_length
    show g.1.count false<(S:Int).natAbs+2
    (first|lia|omega)
   ·obtain⟨⟨w1,w2,w3,w4,w5,w8,qs,w6,w7⟩,hc⟩:=hg'
    obtain⟨p,hp⟩:∃p:Nat,g'.2.1=(p:Int):=⟨g'.2.1.toNat,by (first|lia|omega)⟩
    have hpl:p<g'.1.length:=by (first|lia|omega)
    rw[Zm hp hpl,Rs.okb] at hc
    have hc':g'.1[p]=true:=by
     have:=Rs.ok.inj hc
     simpa using this
    have h5:g'.1[i]?=some true:=by
     rcases w5 with⟨h1,h6⟩ |h1
     ·have:p=i:=by (first|lia|omega)
      subst this
      rw[List.getElem?_eq_getElem hpl,hc'] at h6
      cases h6
     ·exact h1
    rw[XG (Ki (by (first|lia|omega)))]
    refine⟨_,rfl,w1,?_,?_,ps++qs,w6,?_⟩
    ·show(g.2++[g'.2.2]).length<=_
     simp;(first|lia|omega)
    ·exact KY (λq hq=>w4 q (g3 q hq)) h5
    ·show(g.2++[g'.2.2]).flatten=_
     rw[List.flatten_append,g5,List.flatMap_append,w7]
     simp
   ·exact⟨_,rfl,hg'⟩
 ·obtain⟨g1,g2,g3,ps,g4,g5⟩:=hg
  rw[YU] at g2 g3
  refine⟨_,rfl,g2,?_⟩
  rw[g5]
  refine(Zz _ (g4.all (by rw[g1];rfl) (by (first|lia|omega)) λq hq=>g3 q (by (first|lia|omega)))).trans ?_
  rw[Int.toNat_natCast]
  refine(Ge hrs).trans ?_
  rw[←hR]
  unfold Vg
  rw[QB]
  have e:ns.flatMap (λx=>[x,-x])=(List.range ns.length).flatMap λk=>[ns.getD k 0,-(ns.getD k 0)]:=by
   have h:ns=(List.range ns.length).map λk=>ns.getD k 0:=List.ext_getElem (by simp) λj h1 h2=>by simp[h1]
   conv=>lhs;rw[h]
   rw[QB]
  rw[e]
  refine QW λk hk=>B4 (hs _ ?_)
  have hk':=List.mem_range.mp hk
  simp[hk']
theorem DU {α:Type}{l:List α}{m c:Nat}(hm:l.length=m)(hc:c<m):∀{n j:Nat},j<n->(List.replicate n l).flatten[m*j+c]?=l[c]?
 |0,_,h=>by (first|lia|omega)
 |n+1,0,_=>by
  rw[List.replicate_succ,List.flatten_cons,Nat.mul_zero,Nat.zero_add,List.getElem?_append_left (by (first|lia|omega))]
 |n+1,j+1,h=>by
  rw[List.replicate_succ,List.flatten_cons,List.getElem?_append_right (by rw[hm,Nat.mul_succ];(first|lia|omega)),hm,show m*(j+1)+c-m=m*j+c by rw[Nat.mul_succ];(first|lia|omega)]
  exact DU hm hc (by (first|lia|omega))
theorem DH {α:Type}(l:List α):∀n:Nat,(List.replicate n l).flatten.length=n*l.length
 |0=>by simp
 |n+1=>by rw[List.replicate_succ,List.flatten_cons,List.length_append,DH l n,Nat.succ_mul];(first|lia|omega)
structure Drawn (most:Nat)(D:List (List Int)×List (Int×Int)):Prop where
 le:D.2.length<=most
 inc:(D.2.map Prod.fst).Pairwise (· < ·)
 pos:∀e∈D.2,1<=e.1/\e.1<2^250/\(e.2=1∨e.2= -1)
 perm:D.1.flatten.Perm ((D.2.map Prod.fst).flatMap λx=>[x,-x])
 few:D.1.length<=5
theorem FV:∀{d:List (Int×Int)}{x:Int},x∈d.map Prod.fst->∃v,Yw d x=some v/\(x,v)∈d
 | [],_,h=>by simp at h
 |kv::d,x,h=>by
  by_cases c:kv.1=x
  ·exact⟨kv.2,by simp[Yw,List.find?_cons,c],by rw[←c];simp⟩
  ·have hx:x∈d.map Prod.fst:=by
    rw[List.map_cons,List.mem_cons] at h
    rcases h with h |h
    ·exact absurd h.symm c
    ·exact h
   obtain⟨v,h1,h2⟩:=FV hx
   exact⟨v,by unfold Yw at h1⊢;rw[List.find?_cons,decide_eq_false c];exact h1,List.mem_cons_of_mem _ h2⟩
theorem Bj {d:List (Int×Int)}{k v:Int}(h:∀x∈d.map Prod.fst,x≠k):Q1 d k v=d++[(k,v)]:=by
 unfold Q1
 rw[if_neg]
 rw[List.any_eq_true]
 rintro⟨kv,h1,h2⟩
 exact h kv.1 (List.mem_map.mpr ⟨kv,h1,rfl⟩) (by simpa using h2)
theorem CU (ns:List Int){p:Int}(hp:0<=p){most:Nat}(hm:most<=100):Ok (Jk ns p (most:Int)) (Drawn most):=by
 unfold Jk
 simp only[Rs.okb]
 rw[XG (sz (by simp))]
 simp only[Rs.okb]
 rw[XG (sz (by simp))]
 simp only[Rs.okb]
 rw[YQ (by decide) (by decide),Rs.okb,show(2:Int)*(most:Int)=((2*most:Nat):Int) by (first|lia|omega)]
 rw[show Ca [(80:Int),5,2,3] ((2*most:Nat):Int)= .ok (List.replicate (2*most) [(80:Int),5,2,3]).flatten from by
  unfold Ca
  rw[XG ⟨by (first|lia|omega),by (first|lia|omega),sz (by simp;(first|lia|omega))⟩,Int.toNat_natCast]]
 simp only[Rs.okb]
 have hrl:=DH [(80:Int),5,2,3] (2*most)
 have hrg:∀{j c:Nat},c<4->j<2*most->(List.replicate (2*most) [(80:Int),5,2,3]).flatten[4*j+c]?=[(80:Int),5,2,3][c]?:=fun {j c} hc hj=>DU rfl hc hj
 have hrm:∀x∈(List.replicate (2*most) [(80:Int),5,2,3]).flatten,0<x/\x<2^250:=λx hx=>by
  obtain⟨l,h1,h2⟩:=List.mem_flatten.mp hx
  rw[(List.mem_replicate.mp h1).2] at h2
  simp only[List.mem_cons,List.not_mem_nil,or_false] at h2
  rcases h2 with rfl |rfl |rfl |rfl<;> decide
 generalize (List.replicate (2*most) [(80:Int),5,2,3]).flatten=tl at hrl hrg hrm
 rw[show([(80:Int),5,2,3]).length=4 from rfl] at hrl
 rw[show G7 [(most:Int)+1,5,4,3,3] tl= .ok ([(most:Int)+1,5,4,3,3]++tl) from XG (sz (by simp;(first|lia|omega)))]
 simp only[Rs.okb]
 refine Ok.bind (Ok.noE (F5 ns hp _ (by simp;(first|lia|omega)) λx hx=>?_)) λr hr=>?_
 ·rw[List.mem_append] at hx
  rcases hx with h |h
  ·simp only[List.mem_cons,List.not_mem_nil,or_false] at h
   rcases h with rfl |rfl |rfl |rfl |rfl
   ·refine⟨by (first|lia|omega),by (first|lia|omega)⟩
   all_goals decide
  ·exact hrm x h
 obtain⟨hl,hv⟩:=hr
 have hl':r.length=5+8*most:=by rw[hl];simp;(first|lia|omega)
 have hv5:∀(j c:Nat) (s:Int),c<4->j<2*most-> [(80:Int),5,2,3][c]?=some s->∀h:5+4*j+c<r.length,0<=r[5+4*j+c]/\r[5+4*j+c]<s:=λj c s hc hj hs h=>by
  refine hv (5+4*j+c) _ s (by simp[h]) ?_
  rw[List.getElem?_append_right (by simp;(first|lia|omega))]
  simp only[List.length_cons,List.length_nil]
  rw[show 5+4*j+c-(0+1+1+1+1+1)=4*j+c by (first|lia|omega),hrg hc hj]
  exact hs
 have v0:=hv 0 r[0] _ (by simp) rfl
 have v1:=hv 1 r[1] _ (by simp) rfl
 have v2:=hv 2 r[2] _ (by simp) rfl
 have v3:=hv 3 r[3] _ (by simp) rfl
 have v4:=hv 4 r[4] _ (by simp) rfl
 rw[Zm (r:=r) (k:=0) (n:=0) rfl (by (first|lia|omega)),Zm (r:=r) (k:=1) (n:=1) rfl (by (first|lia|omega)),Zm (r:=r) (k:=2) (n:=2) rfl (by (first|lia|omega)),Zm (r:=r) (k:=3) (n:=3) rfl (by (first|lia|omega)),Zm (r:=r) (k:=4) (n:=4) rfl (by (first|lia|omega))]
 simp only[Rs.okb]
 obtain⟨m0,hm0⟩:∃m0:Nat,r[0]=m0:=⟨r[0].toNat,by (first|lia|omega)⟩
 rw[hm0] at v0⊢
 rw[ZA (by (first|lia|omega)),U1 (by decide) (by decide) (by decide) (by decide)]
 simp only[Rs.okb]
 rw[XG (sz (by simp))]
 simp only[Rs.okb]
 have hz:∃z,atR [0,1,(10:Int)^(58:Int).toNat] r[3]= .ok z/\0<=z/\z<=10000000000000000000000000000000000000000000000000000000000:=by
  rcases(by (first|lia|omega):r[3]=0∨r[3]=1∨r[3]=2) with h |h |h<;> rw[h]
  ·exact⟨0,rfl,by decide,by decide⟩
  ·exact⟨1,rfl,by decide,by decide⟩
  ·exact⟨10000000000000000000000000000000000000000000000000000000000,rfl,by decide,by decide⟩
 obtain⟨z,hz,hz0,hz1⟩:=hz
 rw[hz]
 simp only[Rs.okb]
 refine Ok.bind (Ok.forN (λi (g:Int×List (Int×Int)×List Int)=>g.2.1.map Prod.fst=g.2.2/\g.2.2.length=i/\0<=g.1/\g.1<=(i:Int)*30000000000000000000000000000000000000000000000000000000000/\g.2.2.Pairwise (· < ·)/\(∀x∈g.2.2,1<=x/\x<=g.1)/\∀e∈g.2.1,e.2=1∨e.2= -1) ⟨rfl,rfl,Int.le_refl _,by decide,List.Pairwise.nil,λx hx=>(by cases hx),λx hx=>(by cases hx)⟩ λi a g ha hg=>?_) λg hg=>?_
 ·obtain⟨rfl,hi⟩:=Zf ha
  obtain⟨h1,h2,h3,h4,h5,h6,h7⟩:=hg
  have hA:5+4*(2*i)+3<r.length:=by (first|lia|omega)
  have hB:5+4*(2*i)+2<r.length:=by (first|lia|omega)
  have kA:=hv5 (2*i) 3 3 (by (first|lia|omega)) (by (first|lia|omega)) rfl hA
  have kB:=hv5 (2*i) 2 2 (by (first|lia|omega)) (by (first|lia|omega)) rfl hB
  rw[YQ (a:=8) (by decide) (by decide)]
  simp only[Rs.okb]
  rw[Zm (r:=r) (k:=8*(i:Int)+8) (n:=5+4*(2*i)+3) (by (first|lia|omega)) hA,Zm (r:=r) (k:=8*(i:Int)+7) (n:=5+4*(2*i)+2) (by (first|lia|omega)) hB]
  simp only[Rs.okb]
  generalize r[5+4*(2*i)+3]=y at kA
  generalize r[5+4*(2*i)+2]=y2 at kB
  rw[YQ (a:=y) (by (first|lia|omega)) (by (first|lia|omega)),YQ (a:=2) (by decide) (by decide)]
  simp only[Rs.okb]
  have hd1:g.2.1.length=i:=by rw[←h2, ←h1,List.length_map]
  rw[XG (Ki (by (first|lia|omega))),XG (Ki (by (first|lia|omega)))]
  have q0:0<=y*z:=Int.mul_nonneg kA.1 hz0
  have q1:y*z<=2*10000000000000000000000000000000000000000000000000000000000:=Int.mul_le_mul (by (first|lia|omega)) hz1 hz0 (by decide)
  generalize y*z=st at q0 q1
  have hnew:∀x∈g.2.1.map Prod.fst,x≠g.1+1+st:=λx hx e=>by
   rw[h1] at hx
   have:=(h6 x hx).2
   (first|lia|omega)
  rw[Bj hnew]
  refine⟨_,rfl,?_,?_,?_,?_,?_,?_,?_⟩
  ·show(g.2.1++[(g.1+1+st,2*y2-1)]).map Prod.fst=g.2.2++[g.1+1+st]
   rw[List.map_append,h1];rfl
  ·show(g.2.2++[g.1+1+st]).length=_
   simp[h2]
  ·show 0<=g.1+1+st
   (first|lia|omega)
  ·show g.1+1+st<=_
   (first|lia|omega)
  ·show(g.2.2++[g.1+1+st]).Pairwise (· < ·)
   rw[List.pairwise_append]
   refine⟨h5,by simp,λx hx w hw=>?_⟩
   rw[List.mem_singleton] at hw
   have:=(h6 x hx).2
   (first|lia|omega)
  ·intro x hx
   show 1<=x/\x<=g.1+1+st
   rcases List.mem_append.mp hx with h |h
   ·have:=h6 x h;(first|lia|omega)
   ·rw[List.mem_singleton] at h;(first|lia|omega)
  ·intro e he
   rcases List.mem_append.mp he with h |h
   ·exact h7 e h
   ·rw[List.mem_singleton] at h
    subst h
    show 2*y2-1=1∨2*y2-1= -1
    (first|lia|omega)
 obtain⟨h1,h2,h3,h4,h5,h6,h7⟩:=hg
 rw[YU] at h2 h4
 generalize hN:g.2.2=names at*
 generalize hD:g.2.1=d at*
 have hsg:∀x∈names,Yw d x=some ((Yw d x).getD 1)/\((Yw d x).getD 1=1∨(Yw d x).getD 1= -1):=λx hx=>by
  obtain⟨v,e1,e2⟩:=FV (d:=d) (x:=x) (by rw[h1];exact hx)
  rw[e1]
  exact⟨rfl,h7 _ e2⟩
 have hmap:DQ names (λa=>(Vx d a).bind λx=>.ok (a,x))= .ok (names.map λa=>(a,(Yw d a).getD 1)):=Qw (sz (by (first|lia|omega))) λa ha=>by
  unfold Vx
  rw[(hsg a ha).1];rfl
 refine Ok.bind (R:=λws:List (List Int)=>ws.length<=5/\ws.flatten.Perm (names.flatMap λx=>[x,-x])) (Ok.ite (λ_=>?_) λ_=>?_) λws hws=>?_
 ·refine Ok.bind (R:=λws:List (List Int)=>ws.length<=5/\ws.flatten.Perm (names.flatMap λx=>[x,-x])) ?_ λws hws=>⟨_,rfl,hws⟩
  refine Ok.bind (Ok.noE (CY (by (first|lia|omega)) (by (first|lia|omega)))) λl hl2=>?_
  rw[show(2:Int)+r[4]=((2+r[4].toNat:Nat):Int) by (first|lia|omega)]
  have hln:=hl2.length_eq
  refine Ok.noE (Ok.imp (GL (sg:=λx=>(Yw d x).getD 1) (by (first|lia|omega)) (by (first|lia|omega)) (λx hx=>(hsg x (hl2.mem_iff.mp hx)).1) (λx hx=>(hsg x (hl2.mem_iff.mp hx)).2) (by (first|lia|omega)) (by (first|lia|omega))) λws hw=>⟨by (first|lia|omega),hw.2.trans (Zz _ hl2)⟩)
 ·refine Ok.bind (R:=λws:List (List Int)=>ws.length<=5/\ws.flatten.Perm (names.flatMap λx=>[x,-x])) ?_ λws hws=>⟨_,rfl,hws⟩
  obtain⟨rings,hrings⟩:∃k:Nat,max r[1] (min (names.length:Int) 1)=(k:Int):=⟨(max r[1] (min (names.length:Int) 1)).toNat,by (first|lia|omega)⟩
  rw[hrings]
  refine Ok.noE (Ok.imp (Iw (by (first|lia|omega)) (by (first|lia|omega)) (λhne=>?_) (by (first|lia|omega))) λws hw=>⟨by (first|lia|omega),hw.2⟩)
  have:0<names.length:=List.length_pos_iff.mpr hne
  (first|lia|omega)
 ·rw[hmap]
  simp only[Rs.okb]
  have hfst:(names.map λa=>(a,(Yw d a).getD 1)).map Prod.fst=names:=by rw[List.map_map];exact List.map_id' _
  refine⟨_,rfl,?_,?_,?_,?_,hws.1⟩
  ·show(names.map λa=>(a,(Yw d a).getD 1)).length<=most
   simp;(first|lia|omega)
  ·show((names.map λa=>(a,(Yw d a).getD 1)).map Prod.fst).Pairwise _
   rw[hfst];exact h5
  ·intro e he
   obtain⟨x,hx,rfl⟩:=List.mem_map.mp he
   have:=h6 x hx
   refine⟨this.1,?_,(hsg x hx).2⟩
   show x<2^250
   (first|lia|omega)
  ·show ws.flatten.Perm (((names.map λa=>(a,(Yw d a).getD 1)).map Prod.fst).flatMap λx=>[x,-x])
   rw[hfst];exact hws.2
section
variable {α β γ δ ρ:Type}
noncomputable def enF:Nat->List α->List (Int×α)
 |_,[]=>[]
 |j,x::w=>((j:Int),x)::enF (j+1) w
theorem F4:∀(w:List α) (j:Nat),((List.range' j w.length).map λ(i:Nat)=>(i:Int)).zip w=enF j w
 | [],_=>rfl
 |x::w,j=>by
  rw[List.length_cons,List.range'_succ,List.map_cons,List.zip_cons_cons,F4 w (j+1)];rfl
theorem JT (w:List α):Vz w=enF 0 w:=by
 unfold Vz
 rw[List.range_eq_range'];exact F4 w 0
theorem Fh:∀(w:List α) (j:Nat),(enF j w).map (·.1)=(List.range' j w.length).map λ(i:Nat)=>(i:Int)
 | [],_=>rfl
 |x::w,j=>by
  rw[List.length_cons,List.range'_succ,List.map_cons, ←Fh w (j+1)];rfl
theorem Va (w:List α):((List.range w.length).map λ(i:Nat)=>(i:Int))=(enF 0 w).map (·.1):=by
 rw[Fh,List.range_eq_range']
theorem Jz {f:γ->β->Rs (Ctl ρ γ)}{p:α->β}:∀(l:List α) (g:γ),forC (l.map p) g f=forC l g λg a=>f g (p a)
 | [],_=>rfl
 |a::l,g=>by
  show(f g (p a)).bind _=(f g (p a)).bind _
  congr 1
  funext c
  cases c with
  |nx g'=>exact Jz l g'
  |ret r=>rfl
noncomputable def sc (bd:δ->Nat->α->Option ρ)(ap:δ->α->δ):δ->Nat->List α->Option ρ
 |_,_,[]=>none
 |ah,j,x::w=>match bd ah j x with
  |some r=>some r
  |none=>sc bd ap (ap ah x) (j+1) w
noncomputable def Sc (bd:δ->Nat->α->Option ρ)(ap:δ->α->δ)(I:γ->δ->Nat->List α->Prop)(ah:δ)(j:Nat)(w:List α)(c:Ctl ρ γ):Prop:=match sc bd ap ah j w with
 |some r=>c= .ret r
 |none=>∃ g' ah',c= .nx g'/\I g' ah' (j+w.length) []
theorem QI {f:γ->Int×α->Rs (Ctl ρ γ)}{bd:δ->Nat->α->Option ρ}{ap:δ->α->δ}(I:γ->δ->Nat->List α->Prop)
  (hf:∀g ah j x w,I g ah j (x::w)->Ok (f g ((j:Int),x)) λc=>match bd ah j x with
   |some r=>c= .ret r
   |none=>∃ g',c= .nx g'/\I g' (ap ah x) (j+1) w):
  ∀(w:List α) (j:Nat) (g:γ) (ah:δ),I g ah j w->Ok (forC (enF j w) g f) (Sc bd ap I ah j w)
 | [],j,g,ah,h=>⟨_,rfl,g,ah,rfl,h⟩
 |x::w,j,g,ah,h=>by
  obtain⟨c,h1,h2⟩:=hf g ah j x w h
  unfold Sc sc
  show Ok ((f g ((j:Int),x)).bind _) _
  rw[h1,Rs.okb]
  cases e:bd ah j x with
  |some r0=>
   rw[e] at h2
   have h2':c= .ret r0:=h2
   subst h2'
   exact⟨_,rfl,rfl⟩
  |none=>
   rw[e] at h2
   obtain⟨g',h3,i'⟩:=h2
   subst h3
   have z:=QI I hf w (j+1) g' (ap ah x) i'
   unfold Sc at z
   rw[List.length_cons,show j+(w.length+1)=j+1+w.length by (first|lia|omega)]
   exact z
end
structure Hs (d:List (Int×Bool))(l:List Int):Prop where
 k:∀x,(Yw d x).isSome=decide (x∈l)
 n:d.length<=l.length
theorem Gg (d:List (Int×Bool))(x:Int):(Yw d x).isSome=d.any λkv=>decide (kv.1=x):=by
 unfold Yw
 induction d with
 |nil=>rfl
 |cons a d ih=>
  rw[List.find?_cons,List.any_cons]
  cases decide (a.1=x) with
  |true=>rfl
  |false=>exact ih
theorem Hs.nil:Hs [] []:=⟨λx=>by simp[Yw],Nat.le_refl _⟩
theorem Hs.put {d:List (Int×Bool)}{l:List Int}(h:Hs d l)(k:Int)(v:Bool):Hs (Q1 d k v) (l++[k]):=by
 have hk:=h.k k
 rw[Gg] at hk
 refine⟨λx=>?_,?_⟩
 ·have hx:=h.k x
  rw[Gg] at hx⊢
  have e:decide (x∈l++[k])=(decide (x∈l) || decide (x=k)):=by rw[←Bool.decide_or];simp
  rw[e, ←hx]
  unfold Q1
  split
  ·rename_i c
   rw[List.any_map]
   have:(λkv:Int×Bool=>decide (kv.1=x))∘(λkv:Int×Bool=>if kv.1=k then(kv.1,v) else kv)=λkv=>decide (kv.1=x):=by
    funext kv
    show decide ((if kv.1=k then(kv.1,v) else kv).1=x)=_
    split<;> rfl
   rw[this]
   by_cases q:x=k
   ·subst q;rw[c];rfl
   ·rw[decide_eq_false q,Bool.or_false]
  ·rw[List.any_append]
   have:(decide (k=x))=decide (x=k):=by rw[decide_eq_decide];exact eq_comm
   simp[this]
 ·unfold Q1
  have:=h.n
  split<;> simp<;> (first|lia|omega)
theorem Hs.puts:∀(ks:List Int) {d:List (Int×Bool)}{l:List Int},Hs d l->Hs (GY d (ks.map λk=>(k,true))) (l++ks)
 | [],d,l,h=>by rw[List.append_nil];exact h
 |k::ks,d,l,h=>by
  have:=Hs.puts ks (h.put k true)
  rw[List.append_assoc] at this
  exact this
structure Sm (n:Nat)(D:List (List Int)×List (Int×Int)):Prop where
 a:D.1.length<=n
 b:D.2.length<=n
 c:D.1.flatten.length<=n
 d:∀e∈D.2,-10<e.2/\e.2<10
theorem Sm.row {n:Nat}{D:List (List Int)×List (Int×Int)}(h:Sm n D){w:List Int}(hw:w∈D.1):w.length<=n:=by
 refine Nat.le_trans ?_ h.c
 obtain⟨a,b,e⟩:=List.append_of_mem hw
 rw[e,List.flatten_append,List.flatten_cons,List.length_append,List.length_append];(first|lia|omega)
theorem Sm.le {n m:Nat}{D:List (List Int)×List (Int×Int)}(h:Sm n D)(e:n<=m):Sm m D:=⟨Nat.le_trans h.a e,Nat.le_trans h.b e,Nat.le_trans h.c e,h.d⟩
noncomputable abbrev T3 (i j:Nat):List SI:=[.inl "walk", .inr (i:Int), .inr (j:Int)]
noncomputable abbrev T2 (j:Nat):List SI:=[.inl "sign", .inr (j:Int)]
noncomputable def bdX (nm fl ah:List Int)(x:Int):Bool:=decide (x=0) || (decide (x∈ah) || (!decide (-x∈fl) || !decide ((x.natAbs:Int)∈nm)))
noncomputable def bW (nm fl:List Int)(i:Nat)(ah:List Int)(j:Nat)(x:Int):Option (Option (List SI)):=if bdX nm fl ah x=true then some (some (T3 i j)) else none
noncomputable def scW (nm fl:List Int)(i:Nat)(ah:List Int)(w:List Int):Option (Option (List SI)):=sc (bW nm fl i) (λah x=>ah++[x]) ah 0 w
noncomputable def scA (nm fl:List Int)(ws:List (List Int)):Option (Option (List SI)):=sc (λah i w=>scW nm fl i ah w) (λah w=>ah++w) [] 0 ws
noncomputable def bS (fl:List Int)(a:Int)(j:Nat)(e:Int×Int):Option (Option (List SI)):=if(decide (e.1<=a) || (!decide (e.2=1∨e.2= -1) || !decide (e.1∈fl)))=true then some (some (T2 j)) else none
noncomputable def scS (fl:List Int)(es:List (Int×Int)):Option (Option (List SI)):=sc (bS fl) (λ_ e=>e.1) 0 0 es
noncomputable def mnP (D:List (List Int)×List (Int×Int)):Option (List SI):=if 40<D.2.length then some [.inl "many", .inr (D.2.length:Int)] else if 12<D.1.length then some [.inl "many", .inr (D.1.length:Int)] else none
noncomputable def Kq (D:List (List Int)×List (Int×Int)):Option (List SI):=match scA (D.2.map (·.1)) D.1.flatten D.1 with
 |some r=>r
 |none=>match scS D.1.flatten D.2 with
  |some r=>r
  |none=>mnP D
theorem Kv {n:Nat}{D:List (List Int)×List (Int×Int)}(h:Sm n D)(hn:n<=1000):Ok (YK D.1) λd=>Hs d D.1.flatten:=by
 unfold YK
 simp only[Rs.okb]
 refine Ok.bind (Ok.forN (λi (g:List (Int×Bool))=>Hs g (D.1.take i).flatten) Hs.nil λi w g hw hg=>?_) λg hg=>⟨_,rfl,by rw[List.take_length] at hg;exact hg⟩
 have hi:=(List.getElem?_eq_some_iff.mp hw).1
 have hc:=h.c
 have hs:(D.1.take i).flatten.length+w.length<=D.1.flatten.length:=by
  conv=>rhs;rw[←List.take_append_drop (i+1) D.1,List.flatten_append,List.length_append,List.take_add_one,hw,Option.toList_some,List.flatten_append,List.length_append,List.flatten_singleton]
  (first|lia|omega)
 refine Ok.bind (Ok.forN (λj (g:List (Int×Bool))=>Hs g ((D.1.take i).flatten++w.take j)) (by rw[List.take_zero,List.append_nil];exact hg) λj x g hx hg=>?_) λg hg=>⟨_,rfl,?_⟩
 ·have hj:=(List.getElem?_eq_some_iff.mp hx).1
  have:=hg.n
  rw[List.length_append,List.length_take] at this
  rw[XG (Ki (by (first|lia|omega)))]
  refine⟨_,rfl,?_⟩
  rw[List.take_add_one,hx,Option.toList_some, ←List.append_assoc]
  exact hg.put x true
 ·rw[List.take_length] at hg
  rw[List.take_add_one,hw]
  simpa using hg
section
variable {n:Nat}{D:List (List Int)×List (Int×Int)}
theorem KU {β:Type}{k:Nat}{m:Rs β}(h:k<=100):chk (k<=sizeLine) m=m:=XG (sz (by (first|lia|omega)))
theorem Ux (h:Sm n D)(hn:n<=1000){st:List (Int×Bool)}(hst:Hs st D.1.flatten):Y3 D.1 D.2 st= .ok ((scA (D.2.map (·.1)) D.1.flatten D.1).getD none):=by
 have hb:=h.b
 have hc:=h.c
 refine Ok.eq ?_
 unfold Y3
 simp only[Rs.okb]
 rw[Qw (h:=λe:Int×Int=>(e.1,true)) (sz (by (first|lia|omega))) λa _=>rfl,Rs.okb]
 have hsg:Hs (GY [] (D.2.map λe:Int×Int=>(e.1,true))) (D.2.map (·.1)):=by
  have:=Hs.puts (D.2.map (·.1)) Hs.nil
  rw[List.map_map] at this
  exact this
 generalize GY [] (D.2.map λe:Int×Int=>(e.1,true))=sg at hsg
 rw[Rs.okb,JT]
 refine Ok.bind (QI (bd:=λah i w=>scW (D.2.map (·.1)) D.1.flatten i ah w) (ap:=λah w=>ah++w) (λg ah _ Y1=>Hs g ah/\ah++Y1.flatten=D.1.flatten) (λg ah i w Y1 hI=>?_) D.1 0 [] [] ⟨Hs.nil,rfl⟩) λc hc=>?_
 ·obtain⟨hg,he⟩:=hI
  rw[List.flatten_cons] at he
  rw[JT]
  refine Ok.bind (QI (bd:=bW (D.2.map (·.1)) D.1.flatten i) (ap:=λah x=>ah++[x]) (λg ah' _ r=>Hs g ah'/\ah'++r=ah++w) (λg ah' j x r hI=>?_) w 0 g ah ⟨hg,rfl⟩) λc hc=>?_
  ·obtain⟨hg',he'⟩:=hI
   have hl:g.length<100000:=by
    have h1:=hg'.n
    have h2:=congrArg List.length he'
    have h3:=congrArg List.length he
    simp only[List.length_append,List.length_cons] at h2 h3
    (first|lia|omega)
   dsimp only
   rw[Vy (c:=!(Yw st (-x)).isSome) (λ_=>rfl),Rs.okb,Vy (c:=((Yw g x).isSome || !(Yw st (-x)).isSome) || !(Yw sg (x.natAbs:Int)).isSome) (λ_=>Vy λ_=>rfl),Rs.okb,hg'.k,hst.k,hsg.k]
   have e:(decide (x=0) || ((decide (x∈ah') || !decide (-x∈D.1.flatten)) || !decide ((x.natAbs:Int)∈D.2.map (·.1))))=bdX (D.2.map (·.1)) D.1.flatten ah' x:=by
    unfold bdX;simp only[Bool.or_assoc]
   rw[e]
   unfold bW
   cases bdX (D.2.map (·.1)) D.1.flatten ah' x with
   |true=>
    rw[if_pos rfl,if_pos rfl,KU (by simp)]
    exact⟨_,rfl,rfl⟩
   |false=>
    rw[if_neg Bool.false_ne_true,if_neg Bool.false_ne_true,XG (Ki (by (first|lia|omega)))]
    refine⟨_,rfl,_,rfl,hg'.put x true,?_⟩
    rw[List.append_assoc];exact he'
  ·unfold Sc at hc
   unfold scW
   cases e:sc (bW (D.2.map (·.1)) D.1.flatten i) (λah x=>ah++[x]) ah 0 w with
   |some r=>
    rw[e] at hc
    have hc':c= .ret r:=hc
    subst hc'
    exact⟨_,rfl,rfl⟩
   |none=>
    rw[e] at hc
    obtain⟨g',ah',h1,h2,h3⟩:=hc
    subst h1
    rw[List.append_nil] at h3
    subst h3
    exact⟨_,rfl,g',rfl,h2,by rw[List.append_assoc];exact he⟩
 ·unfold Sc at hc
  show Ok _ λb=>b=(scA (D.2.map (·.1)) D.1.flatten D.1).getD none
  unfold scA
  cases e:sc (λah i w=>scW (D.2.map (·.1)) D.1.flatten i ah w) (λah w=>ah++w) [] 0 D.1 with
  |some r=>
   rw[e] at hc
   have hc':c= .ret r:=hc
   subst hc'
   exact⟨_,rfl,rfl⟩
  |none=>
   rw[e] at hc
   obtain⟨g',ah',h1,h2,h3⟩:=hc
   subst h1
   exact⟨_,rfl,rfl⟩
theorem Ub {st:List (Int×Bool)}(hst:Hs st D.1.flatten):YY D.2 st= .ok ((scS D.1.flatten D.2).getD none):=by
 refine Ok.eq ?_
 unfold YY
 simp only[Rs.okb]
 rw[JT]
 refine Ok.bind (QI (bd:=bS D.1.flatten) (ap:=λ_ e=>e.1) (λg a _ _=>g=a) (λg a j e r hI=>?_) D.2 0 0 0 rfl) λc hc=>?_
 ·subst hI
  dsimp only
  have e2:decide (e.2∈[(1:Int),-1])=decide (e.2=1∨e.2= -1):=by rw[decide_eq_decide];simp
  rw[Vy (c:=!decide (e.2=1∨e.2= -1) || !decide (e.1∈D.1.flatten)) (λ_=>by rw[Vy (c:=!(Yw st e.1).isSome) λ_=>rfl,hst.k,e2]),Rs.okb]
  unfold bS
  cases(decide (e.1<=g) || (!decide (e.2=1∨e.2= -1) || !decide (e.1∈D.1.flatten))) with
  |true=>
   rw[if_pos rfl,if_pos rfl,KU (by simp)]
   exact⟨_,rfl,rfl⟩
  |false=>exact⟨_,rfl,_,rfl,rfl⟩
 ·unfold Sc at hc
  unfold scS
  cases e:sc (bS D.1.flatten) (λ_ e=>e.1) 0 0 D.2 with
  |some r=>
   rw[e] at hc
   have hc':c= .ret r:=hc
   subst hc'
   exact⟨_,rfl,rfl⟩
  |none=>
   rw[e] at hc
   obtain⟨g',ah',h1,_⟩:=hc
   subst h1
   exact⟨_,rfl,rfl⟩
theorem FX:YF D.1 D.2= .ok (mnP D):=by
 unfold YF mnP
 simp only[Rs.okb]
 by_cases c:40<D.2.length
 ·rw[if_pos (decide_eq_true (by (first|lia|omega))),if_pos c,KU (by simp)];rfl
 ·rw[if_neg (by rw[decide_eq_true_eq];(first|lia|omega)),if_neg c]
  by_cases c:12<D.1.length
  ·rw[if_pos (decide_eq_true (by (first|lia|omega))),if_pos c,KU (by simp)];rfl
  ·rw[if_neg (by rw[decide_eq_true_eq];(first|lia|omega)),if_neg c]
theorem IR {α δ ρ:Type}{bd:δ->Nat->α->Option ρ}{ap:δ->α->δ}{P:ρ->Prop}(hb:∀ah j x r,bd ah j x=some r->P r):∀(w:List α) (ah:δ) (j:Nat) (r:ρ),sc bd ap ah j w=some r->P r
 | [],_,_,_,h=>nomatch h
 |x::w,ah,j,r,h=>by
  unfold sc at h
  cases e:bd ah j x with
  |some r'=>rw[e] at h;cases h;exact hb _ _ _ _ e
  |none=>rw[e] at h;exact IR hb w _ _ r h
noncomputable def Tp (l:List SI):Prop:=∃ (t:Str) (i:Int) (is:List Int),l= .inl t::(i::is).map .inr
theorem Hm {nm fl:List Int}{ws:List (List Int)}{r:Option (List SI)}(h:scA nm fl ws=some r):∃l,r=some l/\Tp l:=by
 refine IR (P:=λr=>∃ l,r=some l/\Tp l) (λah i w r e=>IR (bd:=bW nm fl i) (ap:=λah x=>ah++[x]) (P:=λr=>∃ l,r=some l/\Tp l) (λah j x r e=>?_) _ _ _ _ e) _ _ _ _ h
 unfold bW at e
 split at e
 ·cases e;exact⟨_,rfl,_,_,[(j:Int)],rfl⟩
 ·cases e
theorem IJ {fl:List Int}{es:List (Int×Int)}{r:Option (List SI)}(h:scS fl es=some r):∃l,r=some l/\Tp l:=by
 refine IR (P:=λr=>∃ l,r=some l/\Tp l) (λah j x r e=>?_) _ _ _ _ h
 unfold bS at e
 split at e
 ·cases e;exact⟨_,rfl,_,_,[],rfl⟩
 ·cases e
theorem Ik {l:List SI}(h:Kq D=some l):Tp l:=by
 unfold Kq at h
 split at h
 ·rename_i r e
  obtain⟨l',e1,t⟩:=Hm e
  rw[h] at e1;cases e1;exact t
 ·split at h
  ·rename_i r e
   obtain⟨l',e1,t⟩:=IJ e
   rw[h] at e1;cases e1;exact t
  ·unfold mnP at h
   split at h
   ·cases h;exact⟨_,_,[],rfl⟩
   ·split at h
    ·cases h;exact⟨_,_,[],rfl⟩
    ·cases h
theorem JK (h:Sm n D)(hn:n<=1000):Za D= .ok (Kq D):=by
 obtain⟨st,h1,hst⟩:=Kv h hn
 unfold Za Kq
 simp only[Rs.okb]
 rw[h1,Yq,Rs.okb,Ux h hn hst,Yq,Rs.okb,Ub hst,FX]
 cases e:scA (D.2.map (·.1)) D.1.flatten D.1 with
 |some r=>obtain⟨l,rfl,_⟩:=Hm e;rfl
 |none=>
  cases e:scS D.1.flatten D.2 with
  |some r=>obtain⟨l,rfl,_⟩:=IJ e;rfl
  |none=>rfl
end
section
variable {n:Nat}{D:List (List Int)×List (Int×Int)}
theorem BB {α:Type}(as:List α){k:Nat}(h:k<=as.length):Uc as none (some (k:Int))=as.take k:=by
 unfold Uc
 rw[HT.sIx_nat,HT.sIx_none,Nat.min_eq_left h,List.drop_zero,Nat.sub_zero]
theorem K8 {m:Nat}(hm:m<=100000):∀(ws:List (List Int)) (g:List Int),g.length+ws.flatten.length<=m->forN ws g (λg a=>chk (g.length+a.length<=sizeLine) (.ok (g++a)))= .ok (g++ws.flatten)
 | [],g,_=>by rw[List.flatten_nil,List.append_nil];rfl
 |w::ws,g,h=>by
  rw[List.flatten_cons,List.length_append] at h
  show(chk _ _).bind _=_
  rw[XG (sz (by (first|lia|omega))),Rs.okb,List.flatten_cons, ←List.append_assoc]
  exact K8 hm ws (g++w) (by rw[List.length_append];(first|lia|omega))
theorem CJ (h:Sm n D)(hn:n<=1000){nm:List Int}{i j:Nat}{w:List Int}{x:Int}(hw:D.1[i]?=some w)(hx:w[j]?=some x):QK D.1 nm (i:Int) (j:Int)= .ok (bdX nm D.1.flatten ((D.1.take i).flatten++w.take j) x):=by
 have hi:=(List.getElem?_eq_some_iff.mp hw).1
 have hj:=(List.getElem?_eq_some_iff.mp hx).1
 have hc:=h.c
 have hs:(D.1.take i).flatten.length+w.length<=D.1.flatten.length:=by
  conv=>rhs;rw[←List.take_append_drop (i+1) D.1,List.flatten_append,List.length_append,List.take_add_one,hw,Option.toList_some,List.flatten_append,List.length_append,List.flatten_singleton]
  (first|lia|omega)
 unfold QK
 simp only[Rs.okb]
 rw[XU hw,Rs.okb,XU hx,Rs.okb,Rs.okb,Rs.okb,Rs.okb,BB w (Nat.le_of_lt hj),BB D.1 (Nat.le_of_lt hi)]
 rw[K8 (Nat.le_refl _) D.1 [] (by rw[List.length_nil];(first|lia|omega)),Rs.okb,K8 (Nat.le_refl _) (D.1.take i) (w.take j) (by rw[List.length_take];(first|lia|omega)),Rs.okb,List.nil_append,Vy (λ_=>rfl),Rs.okb]
 have e:decide (x∈w.take j++(D.1.take i).flatten)=decide (x∈(D.1.take i).flatten++w.take j):=by
  rw[decide_eq_decide,List.mem_append,List.mem_append];exact or_comm
 rw[e]
 unfold bdX
 cases decide (x=0) with
 |true=>rfl
 |false=>
  cases decide (x∈(D.1.take i).flatten++w.take j) with
  |true=>rfl
  |false=>exact Vy λ_=>rfl
theorem Br (h:Sm n D)(hn:n<=1000):KD D= .ok (Kq D):=by
 have ha:=h.a
 have hb:=h.b
 have hc:=h.c
 refine Ok.eq ?_
 unfold KD
 simp only[Rs.okb]
 rw[Qw (h:=λe:Int×Int=>e.1) (sz (by (first|lia|omega))) λa _=>rfl,Rs.okb,ZA (by (first|lia|omega)),Rs.okb,Va,Jz]
 refine Ok.bind (QI (bd:=λah i w=>scW (D.2.map (·.1)) D.1.flatten i ah w) (ap:=λah w=>ah++w) (λg ah i Y1=>g=ah/\i<=D.1.length/\D.1.drop i=Y1/\ah=(D.1.take i).flatten) (λg ah i w Y1 hI=>?_) D.1 0 [] [] ⟨rfl,Nat.zero_le _,rfl,rfl⟩) λc hc=>?_
 ·obtain⟨rfl,hi0,hr,hah⟩:=hI
  have hw:D.1[i]?=some w:=by
   have:=congrArg (·[0]?) hr
   simpa using this
  have hi:=(List.getElem?_eq_some_iff.mp hw).1
  have hs:(D.1.take i).flatten.length+w.length<=D.1.flatten.length:=by
   conv=>rhs;rw[←List.take_append_drop (i+1) D.1,List.flatten_append,List.length_append,List.take_add_one,hw,Option.toList_some,List.flatten_append,List.length_append,List.flatten_singleton]
   (first|lia|omega)
  dsimp only
  rw[XU hw,Rs.okb,XG (sz (by rw[hah];(first|lia|omega))),Rs.okb,Rs.okb,ZA (by (first|lia|omega)),Rs.okb,Va,Jz]
  refine Ok.bind (QI (bd:=bW (D.2.map (·.1)) D.1.flatten i) (ap:=λah x=>ah++[x]) (λ_ ah' j r=>w.drop j=r/\ah'=g++w.take j) (λ_ ah' j x r hI=>?_) w 0 () g ⟨rfl,by simp⟩) λc hc=>?_
  ·obtain⟨hr',ha'⟩:=hI
   have hx:w[j]?=some x:=by
    have:=congrArg (·[0]?) hr'
    simpa using this
   dsimp only
   rw[CJ h hn hw hx,Yq,Rs.okb, ←hah, ←ha']
   unfold bW
   cases bdX (D.2.map (·.1)) D.1.flatten ah' x with
   |true=>
    rw[if_pos rfl,if_pos rfl,KU (by simp)]
    exact⟨_,rfl,rfl⟩
   |false=>
    refine⟨_,rfl,_,rfl,?_,?_⟩
    ·rw[←List.drop_drop,hr'];rfl
    ·rw[List.take_add_one,hx,Option.toList_some, ←List.append_assoc,ha']
  ·unfold Sc at hc
   unfold scW
   cases e:sc (bW (D.2.map (·.1)) D.1.flatten i) (λah x=>ah++[x]) g 0 w with
   |some r=>
    rw[e] at hc
    have hc':c= .ret r:=hc
    subst hc'
    exact⟨_,rfl,rfl⟩
   |none=>
    rw[e] at hc
    obtain⟨g',ah',h1,h2,h3⟩:=hc
    subst h1
    refine⟨_,rfl,_,rfl,rfl,by (first|lia|omega),?_,?_⟩
    ·rw[←List.drop_drop,hr];rfl
    ·rw[List.take_add_one,hw,hah];simp
 ·unfold Sc at hc
  show Ok _ λb=>b=Kq D
  unfold Kq scA
  cases e:sc (λah i w=>scW (D.2.map (·.1)) D.1.flatten i ah w) (λah w=>ah++w) [] 0 D.1 with
  |some r=>
   rw[e] at hc
   have hc':c= .ret r:=hc
   subst hc'
   exact⟨_,rfl,rfl⟩
  |none=>
   rw[e] at hc
   obtain⟨g',ah',h1,h2,_,_,h3⟩:=hc
   subst h1
   rw[Nat.zero_add,List.take_length] at h3
   rw[h3] at h2
   subst h2
   rw[QO,ZA (by (first|lia|omega)),Rs.okb,Va,Jz]
   refine Ok.bind (QI (bd:=bS D.1.flatten) (ap:=λ_ e=>e.1) (λ_ a j r=>D.2.drop j=r/\(j=0->a=0)/\∀e,0<j->D.2[j-1]?=some e->a=e.1) (λ_ a j e r hI=>?_) D.2 0 () 0 ⟨rfl,λ_=>rfl,λe z=>absurd z (by (first|lia|omega))⟩) λc hc=>?_
   ·obtain⟨hr,h0,h1⟩:=hI
    have hx:D.2[j]?=some e:=by
     have:=congrArg (·[0]?) hr
     simpa using this
    have hj:=(List.getElem?_eq_some_iff.mp hx).1
    have hd:=h.d e (List.mem_of_getElem? hx)
    dsimp only
    rw[XU hx,Rs.okb]
    have p1:Kg (Rs.ok (decide ((0:Int)<(j:Int)))) (((atR D.2 ((j:Int)-1)).bind λx=>Rs.ok x.1).bind λy=>.ok (decide (e.1<=y)))= .ok (decide (0<j)&&decide (e.1<=a)):=by
     by_cases c:0<j
     ·obtain⟨e',he'⟩:∃e',D.2[j-1]?=some e':=⟨_,List.getElem?_eq_getElem (by (first|lia|omega))⟩
      rw[show((j:Int)-1)=((j-1:Nat):Int) by (first|lia|omega),XU he',Rs.okb,Rs.okb,h1 e' c he',decide_eq_true (show(0:Int)<(j:Int) by (first|lia|omega)),decide_eq_true c]
      rfl
     ·rw[decide_eq_false (show ¬(0:Int)<(j:Int) by (first|lia|omega)),decide_eq_false c];rfl
    have p2:∀b:Bool,(decide ((j:Int)=0)&&decide (e.1<1) || (decide (0<j)&&decide (e.1<=a)))=decide (e.1<=a):=λ_=>by
     by_cases c:j=0
     ·rw[h0 c,decide_eq_true (show(j:Int)=0 by (first|lia|omega)),decide_eq_false (show ¬0<j by (first|lia|omega))]
      rw[Bool.true_and,Bool.false_and,Bool.or_false,decide_eq_decide];(first|lia|omega)
     ·rw[decide_eq_false (show ¬(j:Int)=0 by (first|lia|omega)),decide_eq_true (show 0<j by (first|lia|omega))]
      rfl
    have p3:orR (Kg (Rs.ok (decide ((j:Int)=0))) (Rs.ok (decide (e.1<1)))) (Kg (Rs.ok (decide ((0:Int)<(j:Int)))) (((atR D.2 ((j:Int)-1)).bind λx=>Rs.ok x.1).bind λy=>.ok (decide (e.1<=y))))= .ok (decide (e.1<=a)):=by
     rw[p1,BG (λ_=>rfl),Vy (λ_=>rfl),p2 true]
    have p4:orR ((QE e.2 e.2).bind λx=>Rs.ok (!decide (x=1))) (Rs.ok (!decide (e.1∈D.1.flatten)))= .ok (!decide (e.2=1∨e.2= -1) || !decide (e.1∈D.1.flatten)):=by
     rw[YQ (by (first|lia|omega)) (by (first|lia|omega)),Rs.okb,Vy (λ_=>rfl)]
     have:decide (e.2*e.2=1)=decide (e.2=1∨e.2= -1):=by
      rw[decide_eq_decide]
      constructor
      ·intro q
       have h5:e.2= -9∨e.2= -8∨e.2= -7∨e.2= -6∨e.2= -5∨e.2= -4∨e.2= -3∨e.2= -2∨e.2= -1∨e.2=0∨e.2=1∨e.2=2∨e.2=3∨e.2=4∨e.2=5∨e.2=6∨e.2=7∨e.2=8∨e.2=9:=by (first|lia|omega)
       rcases h5 with z |z |z |z |z |z |z |z |z |z |z |z |z |z |z |z |z |z |z<;> rw[z] at q⊢ <;> revert q<;> decide
      ·rintro(z |z)<;> rw[z]<;> decide
     rw[this]
    rw[p3,Rs.okb]
    unfold bS
    cases decide (e.1<=a) with
    |true=>
     rw[if_pos rfl,Bool.true_or,if_pos rfl,KU (by simp)]
     exact⟨_,rfl,rfl⟩
    |false=>
     rw[if_neg Bool.false_ne_true,Bool.false_or,p4,Rs.okb]
     cases(!decide (e.2=1∨e.2= -1) || !decide (e.1∈D.1.flatten)) with
     |true=>
      rw[if_pos rfl,if_pos rfl,KU (by simp)]
      exact⟨_,rfl,rfl⟩
     |false=>
      refine⟨_,rfl,_,rfl,?_,λz=>absurd z (by (first|lia|omega)),λe' _ he'=>?_⟩
      ·rw[←List.drop_drop,hr];rfl
      ·rw[Nat.add_sub_cancel,hx] at he';cases he';rfl
   ·unfold Sc at hc
    unfold scS
    cases e:sc (bS D.1.flatten) (λ_ e=>e.1) 0 0 D.2 with
    |some r=>
     rw[e] at hc
     have hc':c= .ret r:=hc
     subst hc'
     exact⟨_,rfl,rfl⟩
    |none=>
     rw[e] at hc
     obtain⟨g',ah',h1,_⟩:=hc
     subst h1
     rw[QO]
     refine⟨_,?_,rfl⟩
     have:=FX (D:=D)
     unfold YF at this
     simp only[Rs.okb] at this
     exact this
end
section
variable {n:Nat}{D:List (List Int)×List (Int×Int)}
theorem J1 (h:Sm n D)(hn:n<=1000):YV D= .ok D:=by
 have ha:=h.a
 unfold YV
 simp only[Rs.okb]
 rw[Qw (h:=λw:List Int=>w) (sz (by (first|lia|omega))) λa _=>rfl,Rs.okb,List.map_id']
theorem GD (h:Sm n D)(hn:n<=1000)(e:Kq D=none):Ye D= .ok D:=by
 have ha:=h.a
 unfold Ye
 simp only[Rs.okb]
 rw[JK h hn,e,Yq,Rs.okb,if_neg (by decide),Qw (h:=λw:List Int=>w) (sz (by (first|lia|omega))) λa _=>rfl,Rs.okb,List.map_id']
theorem GG (h:Sm n D)(hn:n<=1000){t:Str}{i:Int}{is:List Int}(e:Kq D=some (.inl t::(i::is).map .inr)):Ye D= .err ⟨"NotADrawing", .tag t (i::is)⟩:=by
 unfold Ye
 simp only[Rs.okb]
 rw[JK h hn,e,Yq,Rs.okb,if_pos (show(some (Sum.inl t::List.map Sum.inr (i::is)):Option (List SI)).isSome=true from rfl)]
 show(((Rs.ok (Sum.inl t::List.map Sum.inr (i::is))).bind λx7=>(Bi x7).bind λp=>(Rs.err ⟨"NotADrawing",p⟩:Rs (List (List Int)×List (Int×Int)))))=_
 rw[Rs.okb]
 have:Bi (Sum.inl t::List.map Sum.inr (i::is))= .ok (.tag t (i::is)):=by
  show(match Jt ((i::is).map .inr) with |some l=>Rs.ok (Pay.tag t l) |none=>.bad)=_
  rw[UL]
 rw[this,Rs.okb]
theorem Cn (t:Str)(i:Int)(is:List Int):Ju (some (.inl t::(i::is).map .inr)) (some (.inl t::(i::is).map .inr))= .ok true:=by
 unfold Ju
 simp only[Rs.okb]
 rw[if_neg (λz=>nomatch z)]
 have e1:∀l:List SI,BQ (some l)= .ok l:=λ_=>rfl
 simp only[e1,Rs.okb]
 rw[show orR (Rs.ok !if (some (Sum.inl t::List.map Sum.inr (i::is)):Option (List SI)).isSome=true then true else false) (Rs.ok !decide True)= .ok false from rfl,Rs.okb,if_neg Bool.false_ne_true]
 rw[XG (by
  rintro⟨h1,_⟩
  have:HT.sIx (Sum.inl t::(i::is).map (Sum.inr (α:=Str))).length 0 (some (1:Int))=1:=by
   have:=HT.sIx_nat (Sum.inl t::(i::is).map (Sum.inr (α:=Str))).length 0 1
   rw[show((1:Nat):Int)=1 from rfl] at this
   rw[this];simp
  (first|lia|omega)),Rs.okb]
 have e2:Uc (Sum.inl t::(i::is).map (Sum.inr (α:=Str))) (some (1:Int)) none=(i::is).map .inr:=by
  have:=Cw (Sum.inl t::(i::is).map (Sum.inr (α:=Str))) (k:=1) (by simp)
  exact this
 rw[e2,QX (g:=()) λa ha=>?_,Rs.okb,QO]
 ·have e4:atR (Sum.inl t::(i::is).map (Sum.inr (α:=Str))) 0= .ok (Sum.inl t):=XU (i:=0) rfl
  rw[e4,Rs.okb,show siS (Sum.inl t)= .ok t from rfl,Rs.okb,BG (λ_=>rfl)]
  rfl
 ·obtain⟨b,_,rfl⟩:=List.mem_map.mp ha
  rfl
theorem GZ (h:Sm n D)(hn:n<=1000){t:Str}{i:Int}{is:List Int}(e:Kq D=some (.inl t::(i::is).map .inr)):ZR D= .ok (true,some (.inl t::(i::is).map .inr)):=by
 unfold ZR
 simp only[Rs.okb]
 rw[GG h hn e]
 show chk (cau XM "NotADrawing" "NotADrawing" =true) _=_
 rw[XG (show cau XM "NotADrawing" "NotADrawing" =true by decide)]
 dsimp only
 rw[show Y6 "NotADrawing" "PlaitError" =true by decide,show Y6 "NotADrawing" "NoCrossing" =false by decide,show Y6 "NotADrawing" "TooBig" =false by decide]
 rw[show Kg (Rs.ok true) (Rs.ok true)= .ok true from rfl,Rs.okb,show orR (Rs.ok false) (orR (Rs.ok false) (Rs.ok !true))= .ok false from rfl,Rs.okb,if_neg (by decide),XG (show Pay.tag t (i::is)≠Pay.non from λz=>nomatch z)]
 rfl
theorem Ug:Y2 D= .ok true:=by
 unfold Y2
 simp only[Rs.okb]
 rw[show orR (Rs.ok !true) (Rs.ok !decide True)= .ok false from rfl,Rs.okb,if_neg (by decide),show orR (Rs.ok !true) (Rs.ok !true)= .ok false from rfl,Rs.okb,if_neg (by decide)]
 rw[QX (g:=()) λa _=>?_,Rs.okb,QO,QX (g:=()) λa _=>?_,Rs.okb,QO]
 ·rfl
 ·rw[if_neg (by decide),QX (g:=()) λb _=>?_,Rs.okb,Fo]
  rfl
theorem K1 (h:Sm n D)(hn:n<=1000)(e:Kq D=none):Qy D= .ok true:=by
 have ha:=h.a
 have h0:=J1 h hn
 have h1:=GD h hn e
 have h2:=JK h hn
 rw[e] at h2
 unfold Qy
 simp only[Rs.okb]
 rw[h0,Yq,Rs.okb,h1,Yq,Rs.okb,Ug,Yq,Rs.okb]
 simp only[Rs.okb,h1,h2,Yq]
 rw[show orR (Rs.ok !true) (orR (Rs.ok !decide True) (Rs.ok !decide True))= .ok false from rfl,Rs.okb,if_neg (by decide)]
 rw[show chk ([(7:Int)].length<=sizeLine) (Rs.ok [(7:Int)])= .ok [7] from KU (by simp),Rs.okb,XG (Ki (by (first|lia|omega)))]
 have e3:(if decide ((0:Int)<(D.1.length:Int))=true then((atR (D.1++[[7]]) 0).bind λx40=>chk (x40.length<sizeLine) ((Qg (D.1++[[7]]) 0 (x40++[(5:Int)])).bind λa41=>Rs.ok ())) else Rs.ok ())= .ok ():=by
  by_cases c:0<D.1.length
  ·rw[if_pos (decide_eq_true (by (first|lia|omega)))]
   obtain⟨w,hw⟩:∃w,D.1[0]?=some w:=⟨_,List.getElem?_eq_getElem c⟩
   have hr:=h.row (List.mem_of_getElem? hw)
   have hw':(D.1++[[(7:Int)]])[0]?=some w:=by rw[List.getElem?_append_left c];exact hw
   have s0:Qg (D.1++[[7]]) 0 (w++[(5:Int)])= .ok ((D.1++[[7]]).set 0 (w++[5])):=Qx (i:=0) (by simp)
   rw[show atR (D.1++[[7]]) 0= .ok w from XU (i:=0) hw',Rs.okb,XG (Ki (by (first|lia|omega))),s0]
   rfl
  ·rw[if_neg (by rw[decide_eq_true_eq];(first|lia|omega))]
 rw[e3,Rs.okb,if_neg (by decide),XG (Ki (by (first|lia|omega)))]
 rfl
end
section
variable {n:Nat}{D:List (List Int)×List (Int×Int)}
theorem Lg {α:Type}{as:List α}{i:Nat}(h:i<as.length)(hl:as.length<=100000):VQ as (i:Int)= .ok (as[i],as.eraseIdx i):=by
 unfold VQ
 rw[XG (by (first|lia|omega))]
 have e:seqIndex? (i:Int) as.length=some i:=by
  unfold seqIndex?
  have h0:¬((i:Int)<0):=by (first|lia|omega)
  simp[h0,h]
 rw[e]
 simp[h]
theorem Ix {α:Type}{as:List α}{i:Nat}{a:α}(h:i<=as.length+1)(hl:as.length<=1000):Gk as (i:Int) a= .ok (as.take i++a::as.drop i):=by
 unfold Gk
 rw[XG ⟨by (first|lia|omega),by (first|lia|omega),Ki (by (first|lia|omega))⟩,Int.toNat_natCast]
theorem QJ {α:Type}{as:List α}{i:Nat}{a:α}:(as.take i++a::as.drop i).length=as.length+1:=by
 rw[List.length_append,List.length_cons,List.length_take,List.length_drop];(first|lia|omega)
theorem Dd {α:Type}{as:List α}{i:Nat}{a x:α}(h:x∈as.take i++a::as.drop i):x∈as∨x=a:=by
 rw[List.mem_append,List.mem_cons] at h
 rcases h with h |h |h
 ·exact .inl (List.mem_of_mem_take h)
 ·exact .inr h
 ·exact .inl (List.mem_of_mem_drop h)
theorem ZJ (y:Int){m:Nat}(h:0<m):∃k:Nat,Qd y (m:Int)= .ok (k:Int)/\k<m:=by
 have hp:(0:Int)<(m:Int):=by (first|lia|omega)
 have h1:=Int.emod_nonneg y (show(m:Int)≠0 by (first|lia|omega))
 have h2:=Int.emod_lt_of_pos y hp
 exact⟨(y % (m:Int)).toNat,by rw[Zg hp,Int.toNat_of_nonneg h1],by (first|lia|omega)⟩
theorem QL {ws:List (List Int)}{k:Nat}{w w':List Int}(h:ws[k]?=some w):(ws.set k w').flatten.length+w.length=ws.flatten.length+w'.length:=by
 have hk:=(List.getElem?_eq_some_iff.mp h).1
 have e:ws=ws.take k++w::ws.drop (k+1):=by
  conv=>lhs;rw[←List.take_append_drop k ws]
  congr 1
  rw[List.drop_eq_getElem_cons hk]
  congr 1
  exact(List.getElem?_eq_some_iff.mp h).2
 have e2:ws.set k w'=ws.take k++w'::ws.drop (k+1):=by
  rw[List.set_eq_take_append_cons_drop,if_pos hk]
 rw[e2]
 conv=>rhs;rw[e]
 simp only[List.flatten_append,List.flatten_cons,List.length_append]
 (first|lia|omega)
theorem Sm.set (h:Sm n D){k:Nat}{w w':List Int}(hw:D.1[k]?=some w)(hl:w'.length<=w.length+2):Sm (n+2) (D.1.set k w',D.2):=by
 have:=QL (w':=w') hw
 have ha:=h.a
 have hb:=h.b
 have hc:=h.c
 refine⟨?_,?_,?_,h.d⟩
 ·show(D.1.set k w').length<=_
  rw[List.length_set];(first|lia|omega)
 ·show D.2.length<=_
  (first|lia|omega)
 ·show(D.1.set k w').flatten.length<=_
  (first|lia|omega)
theorem Bg (h:Sm n D)(hn:n<=1000)(hp:0<D.1.flatten.length)(x:Int){r:List Int}(hr:6<=r.length):Ok (Ym D.1 x r) λ_=>True:=by
 have hc:=h.c
 have a0:atR r 0= .ok r[0]:=XU (i:=0) (List.getElem?_eq_getElem (by (first|lia|omega)))
 have a4:atR r 4= .ok r[4]:=XU (i:=4) (List.getElem?_eq_getElem (by (first|lia|omega)))
 unfold Ym
 simp only[Rs.okb]
 rw[K8 (Nat.le_refl _) D.1 [] (by rw[List.length_nil];(first|lia|omega)),Rs.okb,List.nil_append,a0,a4]
 simp only[Rs.okb]
 refine Ok.ite (λ_=>⟨_,rfl,trivial⟩) λ_=>Ok.ite (λ_=>⟨_,rfl,trivial⟩) λ_=>Ok.ite (λ_=>?_) λ_=>?_
 ·obtain⟨k,hk,hk2⟩:=ZJ r[4] hp
  rw[hk,Rs.okb,XU (List.getElem?_eq_getElem hk2)]
  exact⟨_,rfl,trivial⟩
 ·have p9:DC 10 9= .ok 1000000000:=(U1 (by decide) (by decide) (by decide) (by decide)).trans (congrArg Rs.ok (by decide+kernel))
  have h1:=Int.emod_nonneg r[4] (show(2:Int)≠0 by decide)
  have h2:=Int.emod_lt_of_pos r[4] (show(0:Int)<2 by decide)
  rw[p9,Zg (by decide)]
  simp only[Rs.okb]
  rw[YQ (by decide) (by decide),Rs.okb,Rs.okb,Ji (by (first|lia|omega)) (by (first|lia|omega))]
  exact⟨_,rfl,trivial⟩
theorem Vp (h:Sm n D)(hn:n<=900){r:List Int}(hr:6<=r.length):Ok (YM D r) (Sm (n+2)):=by
 have ha:=h.a
 have hb:=h.b
 have hc:=h.c
 have a0:atR r 0= .ok r[0]:=XU (i:=0) (List.getElem?_eq_getElem (by (first|lia|omega)))
 have a2:atR r 2= .ok r[2]:=XU (i:=2) (List.getElem?_eq_getElem (by (first|lia|omega)))
 have a3:atR r 3= .ok r[3]:=XU (i:=3) (List.getElem?_eq_getElem (by (first|lia|omega)))
 have a4:atR r 4= .ok r[4]:=XU (i:=4) (List.getElem?_eq_getElem (by (first|lia|omega)))
 unfold YM
 simp only[Rs.okb]
 rw[J1 h (by (first|lia|omega)),Yq]
 simp only[Rs.okb]
 rw[ZA (by (first|lia|omega)),Rs.okb]
 have hl:((List.range D.1.length).map λ(i:Nat)=>(i:Int)).length<=sizeLine:=sz (by rw[YU];(first|lia|omega))
 rw[Ex (p:=λk=>decide (0<((D.1.getD k.toNat []).length:Int))) (h:=λk=>k) hl (λa h1=>?_) λa _ _=>rfl]
 ·rw[Rs.okb,List.map_id']
  have hm:∀k∈(((List.range D.1.length).map λ(i:Nat)=>(i:Int)).filter λk=>decide (0<((D.1.getD k.toNat []).length:Int))),∃i w,k=((i:Nat):Int)/\D.1[i]?=some w/\0<w.length:=λk hk=>by
   rw[List.mem_filter,decide_eq_true_eq] at hk
   obtain⟨i,hi,rfl⟩:=UN hk.1
   have:=hk.2
   rw[Int.toNat_natCast,List.getD_eq_getElem?_getD,List.getElem?_eq_getElem hi,Option.getD_some] at this
   exact⟨i,_,rfl,List.getElem?_eq_getElem hi,by (first|lia|omega)⟩
  generalize (((List.range D.1.length).map λ(i:Nat)=>(i:Int)).filter λk=>decide (0<((D.1.getD k.toNat []).length:Int)))=held at hm
  refine Ok.ite (λ_=>?_) λhne=>?_
  ·rw[a4,Rs.okb,Rs.okb,KU (by simp),Rs.okb,Rs.okb,KU (by simp),Rs.okb,show G7 D.1 [[r[4]]]= .ok (D.1++[[r[4]]]) from XG (sz (by simp;(first|lia|omega))),Rs.okb]
   refine⟨_,rfl,?_,?_,?_,h.d⟩
   ·show(D.1++[[r[4]]]).length<=_
    simp;(first|lia|omega)
   ·show D.2.length<=_
    (first|lia|omega)
   ·show(D.1++[[r[4]]]).flatten.length<=_
    rw[List.flatten_append,List.length_append];simp;simp at hc;(first|lia|omega)
  ·have hpos:0<held.length:=by
    rw[decide_eq_false_iff_not] at hne;(first|lia|omega)
   obtain⟨q,hq,hq2⟩:=ZJ r[2] hpos
   obtain⟨k,w,ek,hw,hw0⟩:=hm held[q] (List.getElem_mem hq2)
   have hk:=(List.getElem?_eq_some_iff.mp hw).1
   have hwl:=h.row (List.mem_of_getElem? hw)
   have al:alR D.1 (k:Int)= .ok k:=by
    unfold alR ixN
    rw[if_pos (by (first|lia|omega)),if_pos (by (first|lia|omega))]
    simp
   have ro:JM D.1 k= .ok w:=by unfold JM;rw[hw]
   rw[a2,Rs.okb,hq,Rs.okb,XU (List.getElem?_eq_getElem hq2),ek,Rs.okb,al,Rs.okb,a3,Rs.okb,ro]
   simp only[Rs.okb]
   obtain⟨p,hp,hp2⟩:=ZJ r[3] hw0
   rw[hp,Rs.okb,a0]
   simp only[Rs.okb]
   have hf0:0<D.1.flatten.length:=by
    have:=QL (w':=[]) hw
    simp only[List.length_nil] at this
    (first|lia|omega)
   have fin:∀{m:Rs (List (List Int))},Ok m (λws=>Sm (n+2) (ws,D.2))->Ok (m.bind λg=>.ok (g,D.2)) (Sm (n+2)):=λhm=>Ok.bind hm λws hws=>⟨_,rfl,hws⟩
   refine fin (Ok.ite (λ_=>?_) λ_=>Ok.ite (λ_=>?_) λ_=>Ok.ite (λ_=>?_) λ_=>?_)
   ·rw[XU (List.getElem?_eq_getElem hp2),Rs.okb]
    refine Ok.bind (Ok.noE (Bg h (by (first|lia|omega)) hf0 _ hr)) λy _=>?_
    rw[Qx hp2,Rs.okb]
    exact⟨_,rfl,h.set hw (by rw[List.length_set];(first|lia|omega))⟩
   ·rw[Lg hp2 (by (first|lia|omega)),Rs.okb]
    exact⟨_,rfl,h.set hw (by rw[List.length_eraseIdx];split<;> (first|lia|omega))⟩
   ·rw[XU (List.getElem?_eq_getElem hp2),Rs.okb,Ix (by (first|lia|omega)) (by (first|lia|omega)),Rs.okb]
    exact⟨_,rfl,h.set hw (by rw[QJ];(first|lia|omega))⟩
   ·have p6:DC 10 6= .ok 1000000:=(U1 (by decide) (by decide) (by decide) (by decide)).trans (congrArg Rs.ok (by decide+kernel))
    rw[p6,a4]
    simp only[Rs.okb]
    rw[Ix (by (first|lia|omega)) (by (first|lia|omega)),Rs.okb]
    have ro2:∀v,JM (D.1.set k v) k= .ok v:=λv=>by unfold JM;rw[List.getElem?_set_self hk]
    rw[ro2,Rs.okb]
    obtain⟨p',hp',hp2'⟩:=ZJ r[4] (m:=(w.take p++((1000000:Int)+r[4])::w.drop p).length) (by rw[QJ];(first|lia|omega))
    simp only[Rs.okb]
    rw[hp',Rs.okb,Ix (by (first|lia|omega)) (by rw[QJ];(first|lia|omega)),Rs.okb,List.set_set]
    exact⟨_,rfl,h.set hw (by rw[QJ,QJ];(first|lia|omega))⟩
 ·obtain⟨i,hi,rfl⟩:=UN h1
  rw[XU (List.getElem?_eq_getElem hi),Rs.okb,Int.toNat_natCast,List.getD_eq_getElem?_getD,List.getElem?_eq_getElem hi,Option.getD_some]
  rfl
theorem Vq (h:Sm n D)(hn:n<=900){r:List Int}(hr:6<=r.length):Ok (YL D r) (Sm (n+2)):=by
 have ha:=h.a
 have hb:=h.b
 have hc:=h.c
 have hd:=h.d
 have a1:atR r 1= .ok r[1]:=XU (i:=1) (List.getElem?_eq_getElem (by (first|lia|omega)))
 have a3:atR r 3= .ok r[3]:=XU (i:=3) (List.getElem?_eq_getElem (by (first|lia|omega)))
 have a4:atR r 4= .ok r[4]:=XU (i:=4) (List.getElem?_eq_getElem (by (first|lia|omega)))
 have mk:∀{es:List (Int×Int)},es.length<=D.2.length+1->(∀e∈es,e∈D.2∨(-10<e.2/\e.2<10))->Sm (n+2) (D.1,es):=fun {es} h1 h2=>⟨by show D.1.length<=_;(first|lia|omega),by show es.length<=_;(first|lia|omega),by show D.1.flatten.length<=_;(first|lia|omega),λe he=>(h2 e he).elim (hd e) id⟩
 unfold YL
 simp only[Rs.okb]
 rw[J1 h (by (first|lia|omega)),Yq]
 simp only[Rs.okb]
 rw[a1,Rs.okb,Vy (λ_=>rfl),Rs.okb]
 refine Ok.ite (λ_=>?_) λhne=>?_
 ·rw[a4,Rs.okb,Rs.okb,Rs.okb,Rs.okb,KU (by simp),Rs.okb,show G7 D.2 [(r[4]-3,1)]= .ok (D.2++[(r[4]-3,1)]) from XG (sz (by simp;(first|lia|omega))),Rs.okb]
  refine⟨_,rfl,mk (by simp) λe he=>?_⟩
  rw[List.mem_append,List.mem_singleton] at he
  exact he.imp id λz=>by rw[z];exact⟨by show(-10:Int)<1;decide,by show(1:Int)<10;decide⟩
 ·have hpos:0<D.2.length:=by
   rw[Bool.or_eq_false_iff,decide_eq_false_iff_not] at hne;(first|lia|omega)
  obtain⟨p,hp,hp2⟩:=ZJ r[3] hpos
  rw[a3,Rs.okb,hp,Rs.okb,XU (List.getElem?_eq_getElem hp2),Rs.okb]
  have hx:=hd D.2[p] (List.getElem_mem hp2)
  simp only[Rs.okb]
  have fin:∀{m:Rs (List (Int×Int))},Ok m (λes=>Sm (n+2) (D.1,es))->Ok (m.bind λg=>.ok (D.1,g)) (Sm (n+2)):=λhm=>Ok.bind hm λws hws=>⟨_,rfl,hws⟩
  have fin2:∀{m:Rs (List (Int×Int))},Ok m (λes=>Sm (n+2) (D.1,es))->Ok (m.bind λg=>.ok g) (λes=>Sm (n+2) (D.1,es)):=λhm=>Ok.bind hm λws hws=>⟨_,rfl,hws⟩
  have st:∀e:Int×Int,-10<e.2/\e.2<10->Ok ((Qg D.2 (p:Int) e).bind λa=>.ok a) (λes=>Sm (n+2) (D.1,es)):=λe he=>by
   rw[Qx hp2,Rs.okb]
   refine⟨_,rfl,mk (by rw[List.length_set];(first|lia|omega)) λe' he'=>?_⟩
   rcases mem_set he' with z |z
   ·exact .inl z
   ·exact .inr (by rw[z];exact he)
  refine fin (Ok.ite (λ_=>?_) λ_=>fin2 (Ok.ite (λ_=>?_) λ_=>fin2 (Ok.ite (λ_=>?_) λ_=>fin2 (Ok.ite (λ_=>?_) λ_=>fin2 (Ok.ite (λ_=>?_) λ_=>?_)))))
  ·rw[Lg hp2 (by (first|lia|omega)),Rs.okb]
   exact⟨_,rfl,mk (by rw[List.length_eraseIdx];split<;> (first|lia|omega)) λe he=>.inl (List.mem_of_mem_eraseIdx he)⟩
  ·rw[Ix (by (first|lia|omega)) (by (first|lia|omega)),Rs.okb]
   refine⟨_,rfl,mk (by rw[QJ];(first|lia|omega)) λe he=>(Dd he).imp id λz=>by rw[z];exact hx⟩
  ·rw[Lg hp2 (by (first|lia|omega)),Rs.okb,show((p:Int)+1)=((p+1:Nat):Int) by (first|lia|omega),Ix (by rw[List.length_eraseIdx,if_pos hp2];(first|lia|omega)) (by rw[List.length_eraseIdx];split<;> (first|lia|omega)),Rs.okb]
   refine⟨_,rfl,mk (by rw[QJ,List.length_eraseIdx,if_pos hp2];(first|lia|omega)) λe he=>(Dd he).imp (λz=>List.mem_of_mem_eraseIdx z) λz=>by rw[z];exact hx⟩
  ·rw[KU (by simp),Rs.okb,a4,Rs.okb]
   obtain⟨q,hq,hq2⟩:=ZJ r[4] (m:=3) (by decide)
   rw[show((3:Nat):Int)=3 from rfl] at hq
   rw[hq,Rs.okb]
   have:∃z,atR [(0:Int),2,-3] (q:Int)= .ok z/\ -10<z/\z<10:=by
    have h5:q=0∨q=1∨q=2:=by (first|lia|omega)
    rcases h5 with rfl |rfl |rfl
    ·exact⟨0,rfl,by decide,by decide⟩
    ·exact⟨2,rfl,by decide,by decide⟩
    ·exact⟨-3,rfl,by decide,by decide⟩
   obtain⟨z,hz,z1,z2⟩:=this
   rw[hz]
   simp only[Rs.okb]
   exact st _ ⟨z1,z2⟩
  ·exact st _ hx
  ·rw[a4,Rs.okb]
   obtain⟨q,hq,hq2⟩:=ZJ r[4] hpos
   rw[hq,Rs.okb,XU (List.getElem?_eq_getElem hq2)]
   simp only[Rs.okb]
   exact st _ hx
end
theorem Cu {r:List Int}(hr:3<=r.length)(h0:∀(i:Nat) x s,r[i]?=some x-> [(5:Int),8,3][i]?=some s->0<=x/\x<s):Ok (Q9 r) (Sm 100):=by
 have g0:=h0 0 r[0] 5 (List.getElem?_eq_getElem (by (first|lia|omega))) rfl
 have a0:atR r 0= .ok r[0]:=XU (i:=0) (List.getElem?_eq_getElem (by (first|lia|omega)))
 have a1:atR r 1= .ok r[1]:=XU (i:=1) (List.getElem?_eq_getElem (by (first|lia|omega)))
 have a2:atR r 2= .ok r[2]:=XU (i:=2) (List.getElem?_eq_getElem (by (first|lia|omega)))
 obtain⟨q,hq,hq2⟩:=ZJ r[1] (m:=4) (by decide)
 rw[show((4:Nat):Int)=4 from rfl] at hq
 unfold Q9
 simp only[Rs.okb]
 rw[a0,a1,a2]
 simp only[Rs.okb]
 rw[hq]
 simp only[Rs.okb]
 refine Ok.bind (R:=λc=>∃ m:Nat,c=(m:Int)/\m<=42) (Ok.ite (λ_=>⟨_,rfl,r[0].toNat,by (first|lia|omega),by (first|lia|omega)⟩) λ_=>⟨_,rfl,(38+r[0]).toNat,by (first|lia|omega),by (first|lia|omega)⟩) λc hc=>?_
 obtain⟨m,rfl,hm⟩:=hc
 refine Ok.bind (R:=λc=>∃ x:Nat,c=(x:Int)/\x<=13) (Ok.ite (λ_=>⟨_,rfl,10,by (first|lia|omega),by (first|lia|omega)⟩) λ_=>⟨_,rfl,0,by (first|lia|omega),by (first|lia|omega)⟩) λc hc=>?_
 obtain⟨x,rfl,hx⟩:=hc
 rw[show(1+(q:Int)+(x:Int))=((1+q+x:Nat):Int) by (first|lia|omega),ZA (by (first|lia|omega)),Rs.okb]
 rw[Qw (h:=λ_=>([]:List Int)) (sz (by rw[YU];(first|lia|omega))) λ_ _=>rfl,Rs.okb,ZA (by (first|lia|omega)),Rs.okb]
 refine Ok.bind (Ok.forN (λi (g:List (List Int)×List (Int×Int))=>g.1.length=1+q+x/\g.2.length=i/\g.1.flatten.length=2*i/\∀e∈g.2,-10<e.2/\e.2<10) ⟨by simp,rfl,?_,λe he=>nomatch he⟩ λi a g ha hg=>?_) λg hg=>?_
 ·have:∀l:List Int,(l.map λ_=>([]:List Int)).flatten=[]:=λl=>by simp
  rw[this];rfl
 ·obtain⟨rfl,hi⟩:=Zf ha
  obtain⟨h1,h2,h3,h4⟩:=hg
  have row:∀{ws:List (List Int)}{k:Nat}{w:List Int},ws[k]?=some w->w.length<=ws.flatten.length:=fun {ws k w} hw=>by
   have:=QL (w':=[]) hw
   simp only[List.length_nil] at this
   (first|lia|omega)
  obtain⟨k,hk,hk2⟩:=ZJ (i:Int) (m:=1+q) (by (first|lia|omega))
  rw[show((1+q:Nat):Int)=1+(q:Int) by (first|lia|omega)] at hk
  obtain⟨w,hw⟩:∃w,g.1[k]?=some w:=⟨_,List.getElem?_eq_getElem (by (first|lia|omega))⟩
  have hwl:=row hw
  rw[hk,Rs.okb,XU hw,Rs.okb,XG (Ki (by (first|lia|omega))),Qx (by (first|lia|omega)),Rs.okb,YQ (by (first|lia|omega)) (by (first|lia|omega)),Rs.okb]
  obtain⟨k',hk',hk2'⟩:=ZJ ((i:Int)*(i:Int)) (m:=1+q) (by (first|lia|omega))
  rw[show((1+q:Nat):Int)=1+(q:Int) by (first|lia|omega)] at hk'
  have hs:=QL (w':=w++[(i:Int)+1]) hw
  rw[List.length_append,List.length_singleton] at hs
  obtain⟨w',hw'⟩:∃w',(g.1.set k (w++[(i:Int)+1]))[k']?=some w':=⟨_,List.getElem?_eq_getElem (by rw[List.length_set];(first|lia|omega))⟩
  have hwl':=row hw'
  have hs':=QL (w':=w'++[-(i:Int)-1]) hw'
  rw[List.length_append,List.length_singleton] at hs'
  rw[hk',Rs.okb,XU hw',Rs.okb,XG (Ki (by (first|lia|omega))),Qx (by rw[List.length_set];(first|lia|omega)),Rs.okb,Zg (by decide),Rs.okb,YQ (by decide) (by decide)]
  simp only[Rs.okb]
  rw[XG (Ki (by (first|lia|omega)))]
  refine⟨_,rfl,by simp[h1],by simp[h2],by show((g.1.set k (w++[(i:Int)+1])).set k' (w'++[-(i:Int)-1])).flatten.length=_;(first|lia|omega),λe he=>?_⟩
  rw[List.mem_append,List.mem_singleton] at he
  rcases he with he |he
  ·exact h4 e he
  ·rw[he]
   have z1:=Int.emod_nonneg (i:Int) (show(2:Int)≠0 by decide)
   have z2:=Int.emod_lt_of_pos (i:Int) (show(0:Int)<2 by decide)
   show-10<1-2*((i:Int) % 2)/\1-2*((i:Int) % 2)<10
   (first|lia|omega)
 ·obtain⟨h1,h2,h3,h4⟩:=hg
  rw[YU] at h2 h3
  exact⟨_,rfl,by show g.1.length<=_;(first|lia|omega),by show g.2.length<=_;(first|lia|omega),by show g.1.flatten.length<=_;(first|lia|omega),h4⟩
theorem Lx (l:List Int):(l.flatMap λx=>[x,-x]).length=2*l.length:=by
 induction l with
 |nil=>rfl
 |cons a l ih=>rw[List.flatMap_cons,List.length_append,ih,List.length_cons];simp;(first|lia|omega)
theorem Drawn.sm {D:List (List Int)×List (Int×Int)}(h:Drawn 10 D):Sm 100 D:=by
 have h1:=h.le
 have h2:=h.few
 have h3:=h.perm.length_eq
 rw[Lx,List.length_map] at h3
 exact⟨by (first|lia|omega),by (first|lia|omega),by (first|lia|omega),λe he=>by have:=(h.pos e he).2.2;(first|lia|omega)⟩
theorem C0 (ns:List Int)(_:ns.length<=63):Kj ns= .ok true:=by
 refine Ok.eq ?_
 unfold Kj
 simp only[Rs.okb]
 refine Ok.bind (Ok.noE (CU ns (p:=0) (by decide) (most:=10) (by decide))) λD0 hD0=>?_
 rw[KU (by simp),Rs.okb,KU (by simp),Rs.okb]
 rw[show Ca [(7:Int),7,40,90,40,2] 2= .ok [7,7,40,90,40,2,7,7,40,90,40,2] from by
  unfold Ca
  rw[XG ⟨by decide,by decide,sz (by simp)⟩];rfl,Rs.okb]
 rw[show G7 [(4:Int),3] [7,7,40,90,40,2,7,7,40,90,40,2]= .ok [4,3,7,7,40,90,40,2,7,7,40,90,40,2] from XG (sz (by simp)),Rs.okb]
 refine Ok.bind (Ok.noE (F5 ns (p:=1) (by decide) _ (by simp) (by decide))) λr hr=>?_
 obtain⟨hl,hv⟩:=hr
 have hl':r.length=14:=hl
 have v1:=hv 1 r[1] 3 (List.getElem?_eq_getElem (by (first|lia|omega))) rfl
 have a0:atR r 0= .ok r[0]:=XU (i:=0) (List.getElem?_eq_getElem (by (first|lia|omega)))
 have a1:atR r 1= .ok r[1]:=XU (i:=1) (List.getElem?_eq_getElem (by (first|lia|omega)))
 rw[a0,Rs.okb]
 refine Ok.bind (R:=Sm 100) (Ok.ite (λ_=>?_) λ_=>⟨_,rfl,hD0.sm⟩) λD hD=>?_
 ·rw[KU (by simp),Rs.okb]
  refine Ok.bind (R:=Sm 100) (Ok.bind (Ok.noE (F5 ns (p:=2) (by decide) _ (by simp) (by decide))) λr2 hr2=>Ok.noE (Cu (by rw[hr2.1];decide) hr2.2)) λD hD=>⟨_,rfl,hD⟩
 rw[J1 hD (by decide),Yq,Rs.okb,a1,Rs.okb,show r[1]=((r[1].toNat:Nat):Int) by (first|lia|omega),ZA (by (first|lia|omega)),Rs.okb]
 refine Ok.bind (R:=Sm 104) (Ok.imp (Ok.forN (λi (g:List (List Int)×List (Int×Int))=>Sm (100+2*i) g) hD λi a g ha hg=>?_) λg hg=>hg.le (by rw[YU];(first|lia|omega))) λg hg=>?_
 ·obtain⟨rfl,hi⟩:=Zf ha
  rw[YQ (by decide) (by decide)]
  simp only[Rs.okb]
  rw[show(6*(i:Int)+2)=((6*i+2:Nat):Int) by (first|lia|omega),show(6*(i:Int)+8)=((6*i+8:Nat):Int) by (first|lia|omega)]
  have hc:6<=(Uc r (some ((6*i+2:Nat):Int)) (some ((6*i+8:Nat):Int))).length:=by
   unfold Uc
   rw[HT.sIx_nat,HT.sIx_nat,List.length_take,List.length_drop]
   (first|lia|omega)
  generalize Uc r (some ((6*i+2:Nat):Int)) (some ((6*i+8:Nat):Int))=pk at hc
  rw[show atR pk 5= .ok pk[5] from XU (i:=5) (List.getElem?_eq_getElem (by (first|lia|omega))),Rs.okb]
  refine Ok.bind (R:=Sm (100+2*(i+1))) (Ok.ite (λ_=>?_) λ_=>?_) λg hg=>⟨_,rfl,hg⟩
  ·refine Ok.bind (Ok.noE (Vq hg (by (first|lia|omega)) hc)) λg hg=>⟨_,rfl,hg⟩
  ·refine Ok.bind (Ok.noE (Vp hg (by (first|lia|omega)) hc)) λg hg=>⟨_,rfl,hg⟩
 ·rw[Br hg (by decide),Yq,Rs.okb,J1 hg (by decide),Yq,Rs.okb,JK hg (by decide),Yq,Rs.okb]
  have sm:∀d,Kq g=d->Ju d d= .ok true:=λd e=>by
   cases d with
   |none=>rfl
   |some l=>obtain⟨t,i,is,rfl⟩:=Ik e;exact Cn t i is
  have he:orR (Rs.ok !true) (Rs.ok !decide (g=g))= .ok false:=by rw[decide_eq_true rfl];rfl
  rw[sm _ rfl,Yq,Rs.okb,he,Rs.okb,if_neg (by decide)]
  refine Ok.ite (λhn=>?_) λhs=>?_
  ·rw[K1 hg (by decide) (Option.isNone_iff_eq_none.mp hn)];exact⟨_,rfl,rfl⟩
  ·obtain⟨l,hl⟩:∃l,Kq g=some l:=by
    cases e:Kq g with
    |none=>rw[e] at hs;cases hs
    |some l=>exact⟨l,rfl⟩
   have hm:=sm _ rfl
   obtain⟨t,i,is,rfl⟩:=Ik hl
   rw[GZ hg (by decide) hl,Yq,Rs.okb]
   rw[hl] at hm⊢
   dsimp only
   rw[hm,Yq,Rs.okb,he]
   rw[show orR (Rs.ok !true) (Rs.ok false)= .ok false from rfl,Rs.okb,if_neg (by decide),Br hD (by decide),Yq,Rs.okb,Rs.okb]
   refine Ok.ite (λ_=>⟨_,rfl,rfl⟩) λhn=>?_
   rw[K1 hD (by decide) (by cases e:Kq D with |none=>rfl |some l=>rw[e] at hn;cases hn)]
   exact⟨_,rfl,rfl⟩
noncomputable def top (i:Nat):Stmt:=PySem.Challenge.pw_plait_k11_first_fault.main.body.getD i (.Pass ⟨0,0,0,0⟩)
noncomputable abbrev Kr:Stmt:=top 8
noncomputable abbrev ZX:Stmt:=top 9
noncomputable abbrev ZC:Stmt:=top 10
noncomputable abbrev Z7:Stmt:=top 11
noncomputable abbrev Z5:Stmt:=top 12
noncomputable abbrev QM:Stmt:=top 13
noncomputable abbrev DS:Stmt:=top 15
noncomputable abbrev EH:Stmt:=top 16
noncomputable abbrev Ec:Stmt:=top 17
noncomputable abbrev KH:Stmt:=top 18
noncomputable abbrev Bc:Stmt:=top 19
noncomputable abbrev J9:Stmt:=top 20
noncomputable abbrev Uq:Stmt:=top 21
noncomputable abbrev Gf:Stmt:=top 22
noncomputable abbrev Jm:Stmt:=top 23
noncomputable abbrev Z9:Stmt:=top 24
noncomputable abbrev V1:Stmt:=top 25
noncomputable abbrev Zw:Stmt:=top 26
noncomputable abbrev Zn:Stmt:=top 27
noncomputable abbrev ZS:Stmt:=top 28
noncomputable abbrev Kp:Stmt:=top 29
noncomputable abbrev Cz:Stmt:=top 30
noncomputable abbrev Di:Stmt:=top 31
noncomputable abbrev JR:Stmt:=top 32
noncomputable abbrev KM:Stmt:=top 33
noncomputable abbrev V0:Stmt:=top 34
structure Blt (mg:Str->Option Value):Prop where
 b_ValueError:mg "ValueError" =none
 b_abs:mg "abs" =none
 b_bool:mg "bool" =none
 b_dict:mg "dict" =none
 b_enumerate:mg "enumerate" =none
 b_int:mg "int" =none
 b_isinstance:mg "isinstance" =none
 b_len:mg "len" =none
 b_list:mg "list" =none
 b_max:mg "max" =none
 b_min:mg "min" =none
 b_range:mg "range" =none
 b_str:mg "str" =none
 b_tuple:mg "tuple" =none
 c_MOST_CROSSINGS:∃u,mg "MOST_CROSSINGS" =some u/\X8 (.int 40) u
 c_MOST_WALKS:∃u,mg "MOST_WALKS" =some u/\X8 (.int 12) u
noncomputable def Lo (st:Stmt):Stmt:=match st with
 | .ClassDef _ _ _ b _ _ _ _ _ _ _=>b.getD 0 (.Pass ⟨0,0,0,0⟩)
 |s=>s
noncomputable abbrev HD:Stmt:=Lo (top 2)
theorem Lp:FnScope ["self","fault"] ["self","fault"] (Xk HD):=⟨rfl,rfl,rfl,by decide+kernel,rfl,by decide+kernel,by decide+kernel⟩
theorem I0 {K:PySem.W.Frag}{mg:Str->Option Value}{n f qual:Str}{st:Stmt}{C Pa fI:Addr}{nm0 qn0:Str}{Ns0:Addr}{bs0 sb0:List Value}{sn0:List Str}{ab0:Bool}{co0:Option Bool}{dd0 od0 an0:Option Addr}{ka0 kb0 kc0 ke0 kf0:Option Value}{oc0 kV0 dc0 pm0 cd0 ct0:Value}{sl0:Array (Option Value)}(hm:mg n=some (.ref C))(lC:K.lookup C=some (excClassObj nm0 qn0 C Ns0 bs0 (.ref Pa::vEr) true sn0 sb0 ab0 co0 dd0 ka0 kb0 kc0 ke0 kf0 "ValueError.__new__"))(par:PySem.W.excIn K Pa vEr "ValueError.__new__" =true)
  (sa:PySem.W.findIn K (.ref C) "__setattr__" =some (some (.builtin "object.__setattr__")))(no:PySem.W.findIn K (.ref C) f=some none)(ini:PySem.W.findIn K (.ref C) "__init__" =some (some (.ref fI)))(fn:PySem.W.isFn K (.ref fI)=true)(di:PySem.W.hasDictIn K C=true)
  (l:K.lookup fI=some ⟨oc0,od0, .func (PySem.W.fnOf "__init__" qual (YH st) (Yi st) (Xk st) .none kV0 dc0 pm0 an0 cd0 ct0),sl0⟩)(c:PySem.W.codeIn K cd0 qual=true)(k:PySem.W.keepIn K (.ref fI)=true)(S:FnScope ["self",f] ["self",f] (Xk st))
  (hb:∀(kV doc pm:Value) (an:Option Addr) (cdv ct u0 u1:Value),bindArgs (PySem.W.fnOf "__init__" qual (YH st) (Yi st) (Xk st) .none kV doc pm an cdv ct) ⟨[u0,u1],[]⟩=pure ([("self":Str),f].zip [u0,u1]))
  (pb:∀(_:ExI K C Pa fI f) (P:Program) (w:World) (base:Heap) (cdv:Value) (A:Around) (outer:List Env) (s:Shared) (H:Hp) (E:XK),PSs (G0 (CXD P w) P w K mg base ["self",f] qual (Xk st) fI cdv A outer s H E) (Yi st) (Iu C f (QD 0) (QD 1))):XI K mg n f:=by
 have Y:ExI K C Pa fI f:=⟨⟨_,_,_,_,_,_,_,_,_,_,_,_,_,_,lC⟩,par,sa,no,ini,fn⟩
 refine⟨λC' h'=>?_,λC' h'=>?_⟩
 ·rw[hm] at h'
  cases h'
  refine⟨Pa,fI,_,Y,(Qm l c k).binds λ_ _ _ _ _ _ us hl=>(by obtain⟨_,_,rfl⟩:=En hl;exact hb ..),λP w base=>Ej (k:=0) l c S (λvs H Q E h=>by obtain⟨e,v,_,_,rfl,_⟩:=h;rfl) λA outer s H vs Q E hr hsp=>⟨_,pb Y P w base _ A outer s H E,?_⟩⟩
  obtain⟨e,v,vals,sl,rfl,he,q⟩:=hsp
  exact⟨_,rfl,_,rfl,e,vals,sl,rfl,he,q⟩
 ·rw[hm] at h'
  cases h'
  exact⟨di,no⟩
section
variable {P:Program}{w:World}{K:PySem.W.Frag}{mg:Str->Option Value}{base:Heap}
theorem Zc:FnScope ["walks","standing","walk","passage"] ["walks"] (Xk ZX):=⟨rfl,rfl,rfl,by decide+kernel,rfl,by decide+kernel,by decide+kernel⟩
theorem Vs (D:Def K mg "passages_of" ZX ["walks"])(Y:Ecs XM K mg)(N1:XI K mg "NotADrawing" "fault")(Z:Blt mg):Fn P w K mg base 1 "passages_of" ["walks"] (sp1 (rV (rV Xa)) (oD Xt) YK K):=by
 refine Zq D Zc (λvs H Q E h=>?_) (λf cdv A outer s H vs Q E hr h=>?_)
 ·obtain⟨v_0,a_0,b,rfl,_⟩:=h;rfl
 obtain⟨v_0,a_0,b,rfl,h_0,hm,q⟩:=h
 have hu:=hu8 hr
 have hu1:=Ze hr
 refine⟨_,(Xb (Xs (i:=1) Zc.nd rfl (Or.inl rfl) V7)
  (Xb (Yv PassesOwn.never rfl (Yo (K:=K) rfl (pv 0)) (Xy (i:=2) Zc.nd rfl (Or.inl rfl))
   (Xb (Yv PassesOwn.never rfl (Yo (K:=K) rfl (pv 2)) (Xy (i:=3) Zc.nd rfl (Or.inl rfl))
    (Xb (KG hu1 (pv 1) (pv 3) Zs rfl)
    Xf))
   Xf))
  (Xb (XC (pv 1))
  Xf))),?_⟩
 refine Zj (S:=(SC.add SC.nil K (rV (rV Xa)) v_0 a_0)) (σ:=[some v_0,none,none,none]) 1 ?_ (SC.i SC.t h_0) hm q rfl
 unfold YK
 exact(Ya (K:=K) (o:=(oD Xt)) 1 0 (Kk (r:=Xt)) (Nat.le_of_ble_eq_true rfl) λa1 v2 C3=>(Zu (K:=K) (J:=({oo:=λx4=>[x4.2.2.2],ss:=λx4=>[some v_0,some x4.2.2.1,x4.1,x4.2.1],sc:=λg5 x4=>(SC.addO (SC.add SC.nil K (rV (rV Xa)) v_0 a_0) K (oD Xt) x4.2.2.1 g5 x4.2.2.2)}:Jn ((List (Int×Bool))) (Option V×Option V×V×List XA))) (λ_=>tg1 2) ((none),(none),v2,C3) (a1) (X5 (Xz (r:=(rV (rV Xa))) 0 rfl (λ_ s=>s.l.r))) rfl rfl (λ_ s=>s) (λg6 x7 a8 v9=>(Zu (K:=K) (J:=({oo:=λx10=>[x10.2.2],ss:=λx10=>[some v_0,some x10.2.1,some v9,x10.1],sc:=λg11 x10=>(SC.addO (SC.add (SC.add SC.nil K (rV (rV Xa)) v_0 a_0) K (rV Xa) v9 a8) K (oD Xt) x10.2.1 g11 x10.2.2)}:Jn ((List (Int×Bool))) (Option V×V×List XA))) (λ_=>tg1 3) ((x7.2.1),x7.2.2.1,x7.2.2.2) (g6) (X5 (Xz (r:=(rV Xa)) 2 rfl (λ_ s=>s.r))) rfl rfl (λ_ s=>(SC.i (SC.i (SC.i SC.t s.l.l.r) s.r) s.l.r)) (λg12 x13 a14 v15=>(Ko (K:=K) (r:=Xt) (f:=λa18=>(Rs.ok (a18))) 1 0 rfl rfl (λ_ s=>s.l.r) (EvB.sh (YE true)) (Xc (r:=Xa) 3 rfl (λ_ s=>s.r)) λa18 C19=>(Xx (J:=_) ((some v15),x13.2.1,C19) (a18) rfl rfl (λ_ s=>(SC.i s.l.l.l s.r))))) λg20 x21=>(Xx (J:=_) ((some v9),(x21.1),x21.2.1,x21.2.2) (g20) rfl rfl (λ_ s=>(SC.i (SC.i SC.t s.l.l.r) s.r))))) λg23 x24=>(XD (YN (o:=(oD Xt)) 1 0 rfl rfl (λ_ s=>s.r)))))
theorem Yc:FnScope ["walks","signs","standing","signed","earlier","at","walk","place","passage","alone"] ["walks","signs","standing"] (Xk ZC):=⟨rfl,rfl,rfl,by decide+kernel,rfl,by decide+kernel,by decide+kernel⟩
theorem V6 (D:Def K mg "walk_fault" ZC ["walks","signs","standing"])(Y:Ecs XM K mg)(N1:XI K mg "NotADrawing" "fault")(Z:Blt mg):Fn P w K mg base 1 "walk_fault" ["walks","signs","standing"] (sp3 (rV (rV Xa)) (rV (rP2 Xa Xa)) (rD Xt) (oF (Y0 (rPL (rEi Yu Xa)))) Y3 K):=by
 refine Zq D Yc (λvs H Q E h=>?_) (λf cdv A outer s H vs Q E hr h=>?_)
 ·obtain⟨v_0,v_1,v_2,a_0,a_1,a_2,b,rfl,_⟩:=h;rfl
 obtain⟨v_0,v_1,v_2,a_0,a_1,a_2,b,rfl,h_0,h_1,h_2,hm,q⟩:=h
 have hu:=hu8 hr
 have hu1:=Ze hr
 refine⟨_,(Xb (Xs (i:=3) Yc.nd rfl (Or.inl rfl) (Zt (UT K rfl rfl) rfl Z.b_dict PyProof.Rows.boot_dict (Xd (JI (sc:=(Xk ZC)) (N0:=["walks","signs","standing","signed","earlier","at","walk","place","passage","alone"]) (tns:=["entry"]) (caps:=[]) rfl (Yo (K:=K) rfl (pv 1)) (QH (by decide)) (λcl C s H ex E=>⟨Xy (i:=0) (show List.Nodup (["entry"]:List Str) by decide+kernel) rfl (Or.inl rfl),QF,(X7 (Xd (Xu (XY K rfl) (pv 0) Xg (λ_ _=>rfl)) (Xd Zs Xh)))⟩)) Xh)))
  (Xb (Xs (i:=4) Yc.nd rfl (Or.inl rfl) V7)
  (Xb (Yv PassesOwn.never rfl (KL rfl Z.b_enumerate (pv 0)) (Qt rfl (XX (Xy (i:=5) Yc.nd rfl (Or.inl rfl)) (XX (Xy (i:=6) Yc.nd rfl (Or.inl rfl)) ZE)))
   (Xb (Yv PassesOwn.never rfl (KL rfl Z.b_enumerate (pv 6)) (Qt rfl (XX (Xy (i:=7) Yc.nd rfl (Or.inl rfl)) (XX (Xy (i:=8) Yc.nd rfl (Or.inl rfl)) ZE)))
    (Xb (Xs (i:=9) Yc.nd rfl (Or.inl rfl) (Hi (BK (IE hu1 (pv 8) (pv 4))) (VB (BK (JQ hu1 (Vr Qs (pv 8)) (pv 2))))))
    (Xb (XW (PW.pt (ZP (Xp ZH (pv 8) Xg (XE _)) (ZP (YR (pv 9)) (Zv (Bq (JQ hu1 (Xo Gs rfl Z.b_abs PyProof.Rows.boot_abs (Xd (pv 8) Xh)) (pv 3)))))))
     (Xb (XC (X7 (Xd Qo (Xd (pv 5) (Xd (pv 7) Xh)))))
     Xf)
     Xf)
    (Xb (KG hu1 (pv 4) (pv 8) Zs rfl)
    Xf))))
   Xf))
  (Xb (XC ZN)
  Xf)))),?_⟩
 refine Zj (S:=(SC.add (SC.add (SC.add SC.nil K (rV (rV Xa)) v_0 a_0) K (rV (rP2 Xa Xa)) v_1 a_1) K (rD Xt) v_2 a_2)) (σ:=[some v_0,some v_1,some v_2,none,none,none,none,none,none,none]) 1 ?_ (SC.i (SC.i (SC.i SC.t h_0) h_1) h_2) hm q rfl
 unfold Y3
 exact(XH (K:=K) (r:=(rD Xt)) 3 (Ev.sh (CS (Ev.ls (Qv (λ_=>tg1 0) (X5 (Xz (r:=(rV (rP2 Xa Xa))) 1 rfl (λ_ s=>s.l.r))) (λC4 a5 v6=>(EvS.ev (YJ (EvB.sh (ZU (Xc (r:=(rP2 Xa Xa)) 0 rfl (λ_ s=>s.r)))) (EvB.sh (YE true))))))))) λa1 v2=>(Ya (K:=K) (o:=(oD Xt)) 4 0 (Kk (r:=Xt)) (Nat.le_of_ble_eq_true rfl) λa11 v12 C13=>(Qu (K:=K) (J:=({oo:=λx15=>[x15.2.2.2.2.2.2],ss:=λx15=>[some v_0,some v_1,some v_2,some v2,some x15.2.2.2.2.2.1,x15.1,x15.2.1,x15.2.2.1,x15.2.2.2.1,x15.2.2.2.2.1],sc:=λg16 x15=>(SC.addO (SC.add (SC.add (SC.add (SC.add SC.nil K (rV (rV Xa)) v_0 a_0) K (rV (rP2 Xa Xa)) v_1 a_1) K (rD Xt) v_2 a_2) K (rD Xt) v2 a1) K (oD Xt) x15.2.2.2.2.2.1 g16 x15.2.2.2.2.2.2)}:Jn ((List (Int×Bool))) (Option V×Option V×Option V×Option V×Option V×V×List XA))) (λ_=>tg2 5 6) ((none),(none),(none),(none),(none),v12,C13) (a11) (JX (Xz (r:=(rV (rV Xa))) 0 rfl (λ_ s=>s.l.l.l.l.r))) rfl rfl (λ_ s=>s) (λg17 x18 a19 v20=>(V9 (K:=K) (J:=({oo:=λx22=>[x22.2.2.2.2],ss:=λx22=>[some v_0,some v_1,some v_2,some v2,some x22.2.2.2.1,some v20.1,some v20.2,x22.1,x22.2.1,x22.2.2.1],sc:=λg23 x22=>(SC.addO (SC.add (SC.add (SC.add (SC.add (SC.add (SC.add SC.nil K (rV (rV Xa)) v_0 a_0) K (rV (rP2 Xa Xa)) v_1 a_1) K (rD Xt) v_2 a_2) K (rD Xt) v2 a1) K Xa v20.1 a19.1) K (rV Xa) v20.2 a19.2) K (oD Xt) x22.2.2.2.1 g23 x22.2.2.2.2)}:Jn ((List (Int×Bool))) (Option V×Option V×Option V×V×List XA))) (λ_=>tg2 7 8) ((x18.2.2.1),(x18.2.2.2.1),(x18.2.2.2.2.1),x18.2.2.2.2.2.1,x18.2.2.2.2.2.2) (g17) (JX (Xz (r:=(rV Xa)) 6 rfl (λ_ s=>s.r))) rfl rfl (λ_ s=>(SC.i (SC.i (SC.i s.l.l.l s.l.r) s.r) s.l.l.r)) (λg24 x25 a26 v27=>(XH (K:=K) (r:=Xt) 9 (EvB.sh (Fk (Ed (Xc (r:=Xa) 8 rfl (λ_ s=>s.r)) (XR (o:=(oD Xt)) 4 0 rfl rfl (λ_ s=>s.l.l.r))) (Ue (ZK (Xc (r:=Xa) 8 rfl (λ_ s=>s.r))) (Xc (r:=(rD Xt)) 2 rfl (λ_ s=>s.l.l.l.l.l.l.r))))) λa28 v29=>(ZD (Y4 (Xl (K:=K) (YS (Xc (r:=Xa) 8 rfl (λ_ s=>s.l.r)) (Xe 0))) (Y4 (Zo (K:=K) (Xc (r:=Xt) 9 rfl (λ_ s=>s.r))) (Zo (K:=K) (Ue (FQ (Xc (r:=Xa) 8 rfl (λ_ s=>s.l.r))) (Xc (r:=(rD Xt)) 3 rfl (λ_ s=>s.l.l.l.l.l.l.r)))))) (XD (Zb Vm (EvS.ev (Zd (Xm (ZI (p:=Xa) (EvB.sh (ZG _))) (Xm (Zk (o:=Yu) (Xz (r:=Xa) 5 rfl (λ_ s=>s.l.l.l.l.l.r))) (Xm (Zk (o:=Yu) (Xz (r:=Xa) 7 rfl (λ_ s=>s.l.l.r))) X9))))))) (Ko (K:=K) (r:=Xt) (f:=λa54=>(Rs.bind (Rs.ok (a54)) λx56=>(Rs.ok (Ctl.nx x56)))) 4 0 rfl rfl (λ_ s=>s.l.l.l.r) (EvB.sh (YE true)) (Xc (r:=Xa) 8 rfl (λ_ s=>s.l.r)) λa54 C55=>(Qq (Xx (J:=_) ((some v27.1),(some v27.2),(some v29),x25.2.2.2.1,C55) (a54) rfl rfl (λ_ s=>(SC.i s.l.l.l.l.l s.r)))))))) λg58 x59=>(Qq (Xx (J:=_) ((some v20.1),(some v20.2),(x59.1),(x59.2.1),(x59.2.2.1),x59.2.2.2.1,x59.2.2.2.2) (g58) rfl rfl (λ_ s=>(SC.i s.l.l.l s.r)))))) λg62 x63=>(XD JS))))
theorem Y8:FnScope ["signs","standing","ahead","at","entry"] ["signs","standing"] (Xk Z7):=⟨rfl,rfl,rfl,by decide+kernel,rfl,by decide+kernel,by decide+kernel⟩
theorem Ud (D:Def K mg "sign_fault" Z7 ["signs","standing"])(Y:Ecs XM K mg)(N1:XI K mg "NotADrawing" "fault")(Z:Blt mg):Fn P w K mg base 1 "sign_fault" ["signs","standing"] (sp2 (rV (rP2 Xa Xa)) (rD Xt) (oF (Y0 (rPL (rEi Yu Xa)))) YY K):=by
 refine Zq D Y8 (λvs H Q E h=>?_) (λf cdv A outer s H vs Q E hr h=>?_)
 ·obtain⟨v_0,v_1,a_0,a_1,b,rfl,_⟩:=h;rfl
 obtain⟨v_0,v_1,a_0,a_1,b,rfl,h_0,h_1,hm,q⟩:=h
 have hu:=hu8 hr
 have hu1:=Ze hr
 refine⟨_,(Xb (Xs (i:=2) Y8.nd rfl (Or.inl rfl) Xg)
  (Xb (Yv PassesOwn.never rfl (KL rfl Z.b_enumerate (pv 0)) (Qt rfl (XX (Xy (i:=3) Y8.nd rfl (Or.inl rfl)) (XX (Xy (i:=4) Y8.nd rfl (Or.inl rfl)) ZE)))
   (Xb (XW (PW.pt (ZP (Xp Ic (Xu (XY K rfl) (pv 4) Xg (λ_ _=>rfl)) (pv 2) (XE _)) (ZP (Xp Z6 (Xu (XY K rfl) (pv 4) Xg (λ_ _=>rfl)) (X7 (Xd Xg (Xd (Vr Qs Xg) Xh))) rfl) (Zv (Bq (JQ hu1 (Xu (XY K rfl) (pv 4) Xg (λ_ _=>rfl)) (pv 1)))))))
    (Xb (XC (X7 (Xd Qo (Xd (pv 3) Xh))))
    Xf)
    Xf)
   (Xb (Xs (i:=2) Y8.nd rfl (Or.inl rfl) (Xu (XY K rfl) (pv 4) Xg (λ_ _=>rfl)))
   Xf)))
  (Xb (XC ZN)
  Xf))),?_⟩
 refine Zj (S:=(SC.add (SC.add SC.nil K (rV (rP2 Xa Xa)) v_0 a_0) K (rD Xt) v_1 a_1)) (σ:=[some v_0,some v_1,none,none,none]) 0 ?_ (SC.i (SC.i SC.t h_0) h_1) hm q rfl
 unfold YY
 exact(XH (K:=K) (r:=Xa) 2 (EvB.sh (Xe 0)) λa1 v2=>(Qu (K:=K) (J:=({oo:=λx4=>[],ss:=λx4=>[some v_0,some v_1,some x4.2.2,x4.1,x4.2.1],sc:=λg5 x4=>(SC.add (SC.add (SC.add SC.nil K (rV (rP2 Xa Xa)) v_0 a_0) K (rD Xt) v_1 a_1) K Xa x4.2.2 g5)}:Jn (Int) (Option V×Option V×V))) (λ_=>tg2 3 4) ((none),(none),v2) (a1) (JX (Xz (r:=(rV (rP2 Xa Xa))) 0 rfl (λ_ s=>s.l.l.r))) rfl rfl (λ_ s=>s) (λg6 x7 a8 v9=>(ZD (Y4 (Xl (K:=K) (BR (ZU (Xc (r:=(rP2 Xa Xa)) 4 rfl (λ_ s=>s.r))) (Xc (r:=Xa) 2 rfl (λ_ s=>s.l.l.r)))) (Y4 (Xl (K:=K) (Cr (Vc (Xc (r:=(rP2 Xa Xa)) 4 rfl (λ_ s=>s.r))) (FW (Ev.toB (EvS.ev (YJ (EvB.sh (Xe 1)) (EvB.sh (ZK (Xe 1))))))))) (Zo (K:=K) (Ue (ZU (Xc (r:=(rP2 Xa Xa)) 4 rfl (λ_ s=>s.r))) (Xc (r:=(rD Xt)) 1 rfl (λ_ s=>s.l.l.l.r)))))) (XD (Zb Vm (EvS.ev (Zd (Xm (ZI (p:=Xa) (EvB.sh (ZG _))) (Xm (Zk (o:=Yu) (Xz (r:=Xa) 3 rfl (λ_ s=>s.l.r))) X9)))))) (XH (K:=K) (r:=Xa) 2 (EvB.sh (ZU (Xc (r:=(rP2 Xa Xa)) 4 rfl (λ_ s=>s.r)))) λa32 v33=>(Qq (Xx (J:=_) ((some v9.1),(some v9.2),v33) (a32) rfl rfl (λ_ s=>(SC.i s.l.l.l.l s.r))))))) λg37 x38=>(XD JS)))
theorem Ui:FnScope ["walks","signs"] ["walks","signs"] (Xk Z5):=⟨rfl,rfl,rfl,by decide+kernel,rfl,by decide+kernel,by decide+kernel⟩
theorem Ua (D:Def K mg "many_fault" Z5 ["walks","signs"])(Y:Ecs XM K mg)(N1:XI K mg "NotADrawing" "fault")(Z:Blt mg):Fn P w K mg base 1 "many_fault" ["walks","signs"] (sp2 (rV (rV Xa)) (rV (rP2 Xa Xa)) (oF (Y0 (rPL (rEi Yu Xa)))) YF K):=by
 refine Zq D Ui (λvs H Q E h=>?_) (λf cdv A outer s H vs Q E hr h=>?_)
 ·obtain⟨v_0,v_1,a_0,a_1,b,rfl,_⟩:=h;rfl
 obtain⟨v_0,v_1,a_0,a_1,b,rfl,h_0,h_1,hm,q⟩:=h
 have hu:=hu8 hr
 have hu1:=Ze hr
 refine⟨_,(Xb (XW (Xp UK (Xo (Xj K rfl) rfl Z.b_len PySem.boot_len (Xd (pv 1) Xh)) (Bw Z.c_MOST_CROSSINGS rfl) (XE _))
   (Xb (XC (X7 (Xd Qo (Xd (Xo (Xj K rfl) rfl Z.b_len PySem.boot_len (Xd (pv 1) Xh)) Xh))))
   Xf)
   Xf)
  (Xb (XW (Xp UK (Xo (Xj K rfl) rfl Z.b_len PySem.boot_len (Xd (pv 0) Xh)) (Bw Z.c_MOST_WALKS rfl) (XE _))
   (Xb (XC (X7 (Xd Qo (Xd (Xo (Xj K rfl) rfl Z.b_len PySem.boot_len (Xd (pv 0) Xh)) Xh))))
   Xf)
   Xf)
  (Xb (XC ZN)
  Xf))),?_⟩
 refine Zj (S:=(SC.add (SC.add SC.nil K (rV (rV Xa)) v_0 a_0) K (rV (rP2 Xa Xa)) v_1 a_1)) (σ:=[some v_0,some v_1]) 0 ?_ (SC.i (SC.i SC.t h_0) h_1) hm q rfl
 unfold YF
 exact(YG (Xl (K:=K) (Jq (XQ (Xc (r:=(rV (rP2 Xa Xa))) 1 rfl (λ_ s=>s.r))) (Xe 40))) (XD (Zb Vm (EvS.ev (Zd (Xm (ZI (p:=Xa) (EvB.sh (ZG _))) (Xm (Zk (o:=Yu) (EvB.sh (XQ (Xc (r:=(rV (rP2 Xa Xa))) 1 rfl (λ_ s=>s.r))))) X9)))))) (YG (Xl (K:=K) (Jq (XQ (Xc (r:=(rV (rV Xa))) 0 rfl (λ_ s=>s.l.r))) (Xe 12))) (XD (Zb Vm (EvS.ev (Zd (Xm (ZI (p:=Xa) (EvB.sh (ZG _))) (Xm (Zk (o:=Yu) (EvB.sh (XQ (Xc (r:=(rV (rV Xa))) 0 rfl (λ_ s=>s.l.r))))) X9)))))) (XD JS)))
theorem ZV:FnScope ["drawing","walks","signs","standing","wrong"] ["drawing"] (Xk Kr):=⟨rfl,rfl,rfl,by decide+kernel,rfl,by decide+kernel,by decide+kernel⟩
theorem CW (D:Def K mg "fault" Kr ["drawing"])(g_passages_of:Fn P w K mg base 1 "passages_of" ["walks"] (sp1 (rV (rV Xa)) (oD Xt) YK K))(g_walk_fault:Fn P w K mg base 1 "walk_fault" ["walks","signs","standing"] (sp3 (rV (rV Xa)) (rV (rP2 Xa Xa)) (rD Xt) (oF (Y0 (rPL (rEi Yu Xa)))) Y3 K))(g_sign_fault:Fn P w K mg base 1 "sign_fault" ["signs","standing"] (sp2 (rV (rP2 Xa Xa)) (rD Xt) (oF (Y0 (rPL (rEi Yu Xa)))) YY K))(g_many_fault:Fn P w K mg base 1 "many_fault" ["walks","signs"] (sp2 (rV (rV Xa)) (rV (rP2 Xa Xa)) (oF (Y0 (rPL (rEi Yu Xa)))) YF K))(Y:Ecs XM K mg)(N1:XI K mg "NotADrawing" "fault")(Z:Blt mg):Fn P w K mg base 2 "fault" ["drawing"] (sp1 (rP2 (rV (rV Xa)) (rV (rP2 Xa Xa))) (oF (Y0 (rPL (rEi Yu Xa)))) Za K):=by
 refine Zq D ZV (λvs H Q E h=>?_) (λf cdv A outer s H vs Q E hr h=>?_)
 ·obtain⟨v_0,a_0,b,rfl,_⟩:=h;rfl
 obtain⟨v_0,a_0,b,rfl,h_0,hm,q⟩:=h
 have hu:=hu8 hr
 have hu1:=Ze hr
 refine⟨_,(Xb (Xs (i:=1) ZV.nd rfl (Or.inl rfl) (Xu (XY K rfl) (pv 0) Xg (λ_ _=>rfl)))
  (Xb (Xs (i:=2) ZV.nd rfl (Or.inl rfl) (Xu (XY K rfl) (pv 0) Xg (λ_ _=>rfl)))
  (Xb (Xs (i:=3) ZV.nd rfl (Or.inl rfl) (Yj g_passages_of hr (by decide) (Xd (pv 1) Xh)))
  (Xb (Xs (i:=4) ZV.nd rfl (Or.inl rfl) (Yj g_walk_fault hr (by decide) (Xd (pv 1) (Xd (pv 2) (Xd (pv 3) Xh)))))
  (Xb (XW (Xp VM (pv 4) ZN (XE _))
   (Xb (Xs (i:=4) ZV.nd rfl (Or.inl rfl) (Yj g_sign_fault hr (by decide) (Xd (pv 2) (Xd (pv 3) Xh))))
   Xf)
   Xf)
  (Xb (XW (Xp VM (pv 4) ZN (XE _))
   (Xb (Xs (i:=4) ZV.nd rfl (Or.inl rfl) (Yj g_many_fault hr (by decide) (Xd (pv 1) (Xd (pv 2) Xh))))
   Xf)
   Xf)
  (Xb (XC (pv 4))
  Xf))))))),?_⟩
 refine Zj (S:=(SC.add SC.nil K (rP2 (rV (rV Xa)) (rV (rP2 Xa Xa))) v_0 a_0)) (σ:=[some v_0,none,none,none,none]) 0 ?_ (SC.i SC.t h_0) hm q rfl
 unfold Za
 exact(XH (K:=K) (r:=(rV (rV Xa))) 1 (Uu (Xz (r:=(rP2 (rV (rV Xa)) (rV (rP2 Xa Xa)))) 0 rfl (λ_ s=>s.r))) λa1 v2=>(XH (K:=K) (r:=(rV (rP2 Xa Xa))) 2 (Fb (Xz (r:=(rP2 (rV (rV Xa)) (rV (rP2 Xa Xa)))) 0 rfl (λ_ s=>s.l.r))) λa4 v5=>(XH (K:=K) (r:=(rD Xt)) 3 (Ev.sh (XS (Xc (r:=(rV (rV Xa))) 1 rfl (λ_ s=>s.l.r)))) λa7 v8=>(XH (K:=K) (r:=(Y0 (rPL (rEi Yu Xa)))) 4 (EvB.sh (Ev.toB (ZZ (Xc (r:=(rV (rV Xa))) 1 rfl (λ_ s=>s.l.l.r)) (Xc (r:=(rV (rP2 Xa Xa))) 2 rfl (λ_ s=>s.l.r)) (Xc (r:=(rD Xt)) 3 rfl (λ_ s=>s.r))))) λa11 v12=>(Yt (J:=({oo:=λx19=>[],ss:=λx19=>[some v_0,some v2,some v5,some v8,some x19],sc:=λg20 x19=>(SC.add (SC.add (SC.add (SC.add (SC.add SC.nil K (rP2 (rV (rV Xa)) (rV (rP2 Xa Xa))) v_0 a_0) K (rV (rV Xa)) v2 a1) K (rV (rP2 Xa Xa)) v5 a4) K (rD Xt) v8 a7) K (Y0 (rPL (rEi Yu Xa))) x19 g20)}:Jn ((Option (List (Str ⊕ Int)))) (V))) (YW (Fd:=FNd ({oo:=λx19=>[],ss:=λx19=>[some v_0,some v2,some v5,some v8,some x19],sc:=λg20 x19=>(SC.add (SC.add (SC.add (SC.add (SC.add SC.nil K (rP2 (rV (rV Xa)) (rV (rP2 Xa Xa))) v_0 a_0) K (rV (rV Xa)) v2 a1) K (rV (rP2 Xa Xa)) v5 a4) K (rD Xt) v8 a7) K (Y0 (rPL (rEi Yu Xa))) x19 g20)}:Jn ((Option (List (Str ⊕ Int)))) (V))) (Xl (K:=K) (QZ (tb:=tC .non) (Xc (r:=(Y0 (rPL (rEi Yu Xa)))) 4 rfl (λ_ s=>s.r)))) (XH (K:=K) (r:=(Y0 (rPL (rEi Yu Xa)))) 4 (EvB.sh (Ev.toB (Y9 (Xc (r:=(rV (rP2 Xa Xa))) 2 rfl (λ_ s=>s.l.l.r)) (Xc (r:=(rD Xt)) 3 rfl (λ_ s=>s.l.r))))) λa21 v22=>(Xx (J:=_) (v22) (a21) rfl rfl (λ_ s=>(SC.i s.l.l s.r)))) (Xx (J:=_) (v12) (a11) rfl rfl (λ_ s=>s))) λg27 x26=>(Yt (J:=({oo:=λx30=>[],ss:=λx30=>[some v_0,some v2,some v5,some v8,some x30],sc:=λg31 x30=>(SC.add (SC.add (SC.add (SC.add (SC.add SC.nil K (rP2 (rV (rV Xa)) (rV (rP2 Xa Xa))) v_0 a_0) K (rV (rV Xa)) v2 a1) K (rV (rP2 Xa Xa)) v5 a4) K (rD Xt) v8 a7) K (Y0 (rPL (rEi Yu Xa))) x30 g31)}:Jn ((Option (List (Str ⊕ Int)))) (V))) (YW (Fd:=FNd ({oo:=λx30=>[],ss:=λx30=>[some v_0,some v2,some v5,some v8,some x30],sc:=λg31 x30=>(SC.add (SC.add (SC.add (SC.add (SC.add SC.nil K (rP2 (rV (rV Xa)) (rV (rP2 Xa Xa))) v_0 a_0) K (rV (rV Xa)) v2 a1) K (rV (rP2 Xa Xa)) v5 a4) K (rD Xt) v8 a7) K (Y0 (rPL (rEi Yu Xa))) x30 g31)}:Jn ((Option (List (Str ⊕ Int)))) (V))) (Xl (K:=K) (QZ (tb:=tC .non) (Xc (r:=(Y0 (rPL (rEi Yu Xa)))) 4 rfl (λ_ s=>s.r)))) (XH (K:=K) (r:=(Y0 (rPL (rEi Yu Xa)))) 4 (EvB.sh (Ev.toB (Y9 (Xc (r:=(rV (rV Xa))) 1 rfl (λ_ s=>s.l.l.l.r)) (Xc (r:=(rV (rP2 Xa Xa))) 2 rfl (λ_ s=>s.l.l.r))))) λa32 v33=>(Xx (J:=_) (v33) (a32) rfl rfl (λ_ s=>(SC.i s.l.l s.r)))) (Xx (J:=_) (x26) (g27) rfl rfl (λ_ s=>s))) λg38 x37=>(XD (EvS.ev (Xz (r:=(Y0 (rPL (rEi Yu Xa)))) 4 rfl (λ_ s=>s.r))))))))))
theorem VI:FnScope ["drawing","wrong"] ["drawing"] (Xk QM):=⟨rfl,rfl,rfl,by decide+kernel,rfl,by decide+kernel,by decide+kernel⟩
theorem GU (D:Def K mg "checked" QM ["drawing"])(g_fault:Fn P w K mg base 2 "fault" ["drawing"] (sp1 (rP2 (rV (rV Xa)) (rV (rP2 Xa Xa))) (oF (Y0 (rPL (rEi Yu Xa)))) Za K))(Y:Ecs XM K mg)(N1:XI K mg "NotADrawing" "fault")(Z:Blt mg):FnD P w K mg base 3 "checked" ["drawing"] (HG mg (rP2 (rV (rV Xa)) (rV (rP2 Xa Xa))) (oT2 (oL (oL (oF Xa))) (oL (oF (rP2 Xa Xa)))) Ye K):=by
 refine Ip D VI (λvs H Q E h=>?_) (λf cdv A outer s H vs Q E hr h=>?_)
 ·obtain⟨v_0,a_0,rfl,_⟩:=h;rfl
 obtain⟨v_0,a_0,rfl,h_0,hz⟩:=h
 obtain⟨C_NotADrawing,h_NotADrawing,q_NotADrawing⟩:=Y.adr "NotADrawing" (.tail _ (.head _))
 obtain⟨Pa_NotADrawing,fI_NotADrawing,fd_NotADrawing,Y_NotADrawing,b_NotADrawing,F_NotADrawing⟩:=N1.ex C_NotADrawing h_NotADrawing
 have hu:=hu8 hr
 have hu1:=Ze hr
 refine⟨_,(Xb (PS.nox (Xs (i:=1) VI.nd rfl (Or.inl rfl) (Yj g_fault hr (by decide) (Xd (pv 0) Xh))))
  (Xb (XW (Xp Fx (pv 1) ZN (XE _))
   (Xb (FZ IC rfl rfl Y_NotADrawing (F_NotADrawing _ _ _) b_NotADrawing hr (by decide) Dk rfl h_NotADrawing (Xd (pv 1) Xh))
   Xf)
   Xf)
  (Xb (PS.nox (XC (X7 (Xd (JI (sc:=(Xk QM)) (N0:=["drawing","wrong"]) (tns:=["walk"]) (caps:=[]) rfl (Yo (K:=K) rfl (Xu (XY K rfl) (pv 0) Xg (λ_ _=>rfl))) (QH (by decide)) (λcl C s H ex E=>⟨Xy (i:=0) (show List.Nodup (["walk"]:List Str) by decide+kernel) rfl (Or.inl rfl),QF,(Zt (YI K rfl) rfl Z.b_list PyProof.Rows.boot_list (Xd (pv 0) Xh))⟩)) (Xd (Zt (YI K rfl) rfl Z.b_list PyProof.Rows.boot_list (Xd (Xu (XY K rfl) (pv 0) Xg (λ_ _=>rfl)) Xh)) Xh)))))
  Xf))),?_⟩
 refine HW (S:=(SC.add SC.nil K (rP2 (rV (rV Xa)) (rV (rP2 Xa Xa))) v_0 a_0)) (σ:=[some v_0,none]) 0 ?_ (SC.i SC.t h_0) hz rfl
 unfold Ye
 exact(XH (K:=K) (r:=(Y0 (rPL (rEi Yu Xa)))) 1 (EvB.sh (Ev.toB (XS (Xc (r:=(rP2 (rV (rV Xa)) (rV (rP2 Xa Xa)))) 0 rfl (λ_ s=>s.r))))) λa1 v2=>(YG (Xl (K:=K) (Gx (tb:=tC .non) (Xc (r:=(Y0 (rPL (rEi Yu Xa)))) 1 rfl (λ_ s=>s.r)))) (GE h_NotADrawing rfl (DL (Xc (r:=(Y0 (rPL (rEi Yu Xa)))) 1 rfl (λ_ s=>s.r)))) (XD (Zy (Qv (λ_=>tg1 0) (X5 (Uu (Xz (r:=(rP2 (rV (rV Xa)) (rV (rP2 Xa Xa)))) 0 rfl (λ_ s=>s.l.r)))) (λC9 a10 v11=>(Q7 (EvS.ls (Xz (r:=(rV Xa)) 0 rfl (λ_ s=>s.r)))))) λ_=>(Q7 (EvB.ls (Vc (Xc (r:=(rP2 (rV (rV Xa)) (rV (rP2 Xa Xa)))) 0 rfl (λ_ s=>s.l.r)))))))))
theorem UB:FnScope ["_law_script","_law_place","_law_seed","_law_cell_here"] ["_law_script","_law_place"] (Xk DS):=⟨rfl,rfl,rfl,by decide+kernel,rfl,by decide+kernel,by decide+kernel⟩
theorem EZ (D:Def K mg "_law_cell" DS ["_law_script","_law_place"])(Y:Ecs XM K mg)(N1:XI K mg "NotADrawing" "fault")(Z:Blt mg):Fn P w K mg base 1 "_law_cell" ["_law_script","_law_place"] (sp2 (rL Xa) Xa (oF Xa) JV K):=by
 refine Zq D UB (λvs H Q E h=>?_) (λf cdv A outer s H vs Q E hr h=>?_)
 ·obtain⟨v_0,v_1,a_0,a_1,b,rfl,_⟩:=h;rfl
 obtain⟨v_0,v_1,a_0,a_1,b,rfl,h_0,h_1,hm,q⟩:=h
 have hu:=hu8 hr
 have hu1:=Ze hr
 refine⟨_,(Xb (XW (Xp GW (pv 1) (Xo (Xj K rfl) rfl Z.b_len PySem.boot_len (Xd (pv 0) Xh)) (XE _))
   (Xb (XC (Xu (Xi K rfl) (pv 0) (pv 1) (λ_ _=>rfl)))
   Xf)
   Xf)
  (Xb (Xs (i:=2) UB.nd rfl (Or.inl rfl) Xg)
  (Xb (Yv PassesOwn.never rfl (Yo (K:=K) rfl (QP (JE K rfl) (pv 0) Uv (Jh Xg))) (Xy (i:=3) UB.nd rfl (Or.inl rfl))
   (Xb (Xs (i:=2) UB.nd rfl (Or.inl rfl) (Xq Yl (Xq XZ (Xq XZ (Xq YC (pv 2) Xg) (Xq Yl (pv 3) Xg)) Xg) Xg))
   Xf))
  (Xb (XC (Xq Yl (Xq XZ (pv 2) (Xq YC Xg (pv 1))) Xg))
  Xf)))),?_⟩
 refine Zj (S:=(SC.add (SC.add SC.nil K (rL Xa) v_0 a_0) K Xa v_1 a_1)) (σ:=[some v_0,some v_1,none,none]) 0 ?_ (SC.i (SC.i SC.t h_0) h_1) hm q rfl
 unfold JV
 exact(YG (Xl (K:=K) (VG (Xc (r:=Xa) 1 rfl (λ_ s=>s.r)) (CO (Xc (r:=(rL Xa)) 0 rfl (λ_ s=>s.l.r))))) (XD (EvS.ev (EvB.sh (EY (Xc (r:=(rL Xa)) 0 rfl (λ_ s=>s.l.r)) (Xc (r:=Xa) 1 rfl (λ_ s=>s.r)))))) (XH (K:=K) (r:=Xa) 2 (EvB.sh (Xe 5)) λa7 v8=>(Zu (K:=K) (J:=({oo:=λx13=>[],ss:=λx13=>[some v_0,some v_1,some x13.2,x13.1],sc:=λg14 x13=>(SC.add (SC.add (SC.add SC.nil K (rL Xa) v_0 a_0) K Xa v_1 a_1) K Xa x13.2 g14)}:Jn (Int) (Option V×V))) (λ_=>tg1 3) ((none),v8) (a7) (X5 (Ev.sh (Fm (Xc (r:=(rL Xa)) 0 rfl (λ_ s=>s.l.l.r)) JG (Qb (K:=K) (Xe 63))))) rfl rfl (λ_ s=>s) (λg15 x16 a17 v18=>(XH (K:=K) (r:=Xa) 2 (EvB.sh (XV (XJ (XJ (X3 (Xc (r:=Xa) 2 rfl (λ_ s=>s.l.r)) (Xe 48271)) (XV (Xc (r:=Xa) 3 rfl (λ_ s=>s.r)) (Xe 1000003))) (Xe 1)) (Xe 2147483647))) λa19 v20=>(Xx (J:=_) ((some v18),v20) (a19) rfl rfl (λ_ s=>(SC.i s.l.l.l s.r))))) λg31 x32=>(XD (EvS.ev (EvB.sh (XV (XJ (Xc (r:=Xa) 2 rfl (λ_ s=>s.r)) (X3 (Xe 7919) (Xc (r:=Xa) 1 rfl (λ_ s=>s.l.r)))) (Xe 1000003))))))))
theorem FC:FnScope ["_law_cell_here","_law_k","_law_one","_law_two"] ["_law_cell_here","_law_k"] (Xk EH):=⟨rfl,rfl,rfl,by decide+kernel,rfl,by decide+kernel,by decide+kernel⟩
theorem Hz (D:Def K mg "_law_mix" EH ["_law_cell_here","_law_k"])(Y:Ecs XM K mg)(N1:XI K mg "NotADrawing" "fault")(Z:Blt mg):Fn P w K mg base 1 "_law_mix" ["_law_cell_here","_law_k"] (sp2 Xa Xa (oF Xa) Ks K):=by
 refine Zq D FC (λvs H Q E h=>?_) (λf cdv A outer s H vs Q E hr h=>?_)
 ·obtain⟨v_0,v_1,a_0,a_1,b,rfl,_⟩:=h;rfl
 obtain⟨v_0,v_1,a_0,a_1,b,rfl,h_0,h_1,hm,q⟩:=h
 have hu:=hu8 hr
 have hu1:=Ze hr
 refine⟨_,(Xb (Xs (i:=2) FC.nd rfl (Or.inl rfl) (Xq Yl (Xq VS (Xq XZ (Xq XZ (Xq Yl (pv 0) Xg) (Xq YC Xg (pv 1))) Xg) Xg) Xg))
  (Xb (Xs (i:=3) FC.nd rfl (Or.inl rfl) (Xq Yl (Xq XZ (Xq XZ (Xq YC (pv 2) Xg) (Xq YC (Xq YC Xg (pv 1)) (pv 1))) Xg) Xg))
  (Xb (XC (Xq K9 (pv 3) Xg))
  Xf))),?_⟩
 refine Zj (S:=(SC.add (SC.add SC.nil K Xa v_0 a_0) K Xa v_1 a_1)) (σ:=[some v_0,some v_1,none,none]) 0 ?_ (SC.i (SC.i SC.t h_0) h_1) hm q rfl
 unfold Ks
 exact(XH (K:=K) (r:=Xa) 2 (EvB.sh (XV (Jl (XJ (XJ (XV (Xc (r:=Xa) 0 rfl (λ_ s=>s.l.r)) (Xe 2147483629)) (X3 (Xe 1013) (Xc (r:=Xa) 1 rfl (λ_ s=>s.r)))) (Xe 7919)) (Xe 3)) (Xe 2147483647))) λa1 v2=>(XH (K:=K) (r:=Xa) 3 (EvB.sh (XV (XJ (XJ (X3 (Xc (r:=Xa) 2 rfl (λ_ s=>s.r)) (Xe 40699)) (X3 (X3 (Xe 3793) (Xc (r:=Xa) 1 rfl (λ_ s=>s.l.r))) (Xc (r:=Xa) 1 rfl (λ_ s=>s.l.r)))) (Xe 11)) (Xe 2147483399))) λa15 v16=>(XD (EvS.ev (EvB.sh (Dc (Xc (r:=Xa) 3 rfl (λ_ s=>s.r)) (Xe 101)))))))
theorem Vl:FnScope ["_law_script","_law_place","_law_sizes","_law_cell_here","_law_left","_law_some","_law_k","_law_other"] ["_law_script","_law_place","_law_sizes"] (Xk Ec):=⟨rfl,rfl,rfl,by decide+kernel,rfl,by decide+kernel,by decide+kernel⟩
theorem HK (D:Def K mg "_law_row" Ec ["_law_script","_law_place","_law_sizes"])(g_cell:Fn P w K mg base 1 "_law_cell" ["_law_script","_law_place"] (sp2 (rL Xa) Xa (oF Xa) JV K))(g_mix:Fn P w K mg base 1 "_law_mix" ["_law_cell_here","_law_k"] (sp2 Xa Xa (oF Xa) Ks K))(Y:Ecs XM K mg)(N1:XI K mg "NotADrawing" "fault")(Z:Blt mg):Fn P w K mg base 2 "_law_row" ["_law_script","_law_place","_law_sizes"] (sp3 (rL Xa) Xa (rV Xa) (oL (oF Xa)) Uh K):=by
 refine Zq D Vl (λvs H Q E h=>?_) (λf cdv A outer s H vs Q E hr h=>?_)
 ·obtain⟨v_0,v_1,v_2,a_0,a_1,a_2,b,rfl,_⟩:=h;rfl
 obtain⟨v_0,v_1,v_2,a_0,a_1,a_2,b,rfl,h_0,h_1,h_2,hm,q⟩:=h
 have hu:=hu8 hr
 have hu1:=Ze hr
 refine⟨_,(Xb (Xs (i:=3) Vl.nd rfl (Or.inl rfl) (Yj g_cell hr (by decide) (Xd (pv 0) (Xd (pv 1) Xh))))
  (Xb (Xs (i:=4) Vl.nd rfl (Or.inl rfl) (pv 3))
  (Xb (Xs (i:=5) Vl.nd rfl (Or.inl rfl) (Yn Xh))
  (Xb (Yv PassesOwn.never rfl (Yb rfl Z.b_range (Xd (Xo (Xj K rfl) rfl Z.b_len PySem.boot_len (Xd (pv 2) Xh)) Xh)) (Xy (i:=6) Vl.nd rfl (Or.inl rfl))
   (Xb (XW (Xp GW (pv 3) (Xq VS Xg Xg) (XE _))
    (Xb (XN (Y7 PySem.F.plainAttrs_list PySem.F.slot_list_append PySem.F.type_list_append X6 (pv 5) (Xd (Xq Yl (Yj g_mix hr (by decide) (Xd (pv 3) (Xd (pv 6) Xh))) (Xu (Xi K rfl) (pv 2) (pv 6) (λ_ _=>rfl))) Xh)))
    Xf)
    (Xb (XW (Xp UK (pv 4) Xg (XE _))
     (Xb (XN (Y7 PySem.F.plainAttrs_list PySem.F.slot_list_append PySem.F.type_list_append X6 (pv 5) (Xd (Xq Yl (pv 4) (Xu (Xi K rfl) (pv 2) (pv 6) (λ_ _=>rfl))) Xh)))
     (Xb (Xs (i:=4) Vl.nd rfl (Or.inl rfl) (Xq K9 (pv 4) (Xu (Xi K rfl) (pv 2) (pv 6) (λ_ _=>rfl))))
     Xf))
     (Xb (Xs (i:=7) Vl.nd rfl (Or.inl rfl) (Yj g_cell hr (by decide) (Xd (pv 0) (Xd (Xq Yl (Xq XZ (Xq XZ (pv 1) Xg) (pv 6)) Xg) Xh))))
     (Xb (XN (Y7 PySem.F.plainAttrs_list PySem.F.slot_list_append PySem.F.type_list_append X6 (pv 5) (Xd (Xq Yl (Yj g_mix hr (by decide) (Xd (pv 7) (Xd (pv 6) Xh))) (Xu (Xi K rfl) (pv 2) (pv 6) (λ_ _=>rfl))) Xh)))
     Xf)))
    Xf))
   Xf))
  (Xb (XC (pv 5))
  Xf))))),?_⟩
 refine Zj (S:=(SC.add (SC.add (SC.add SC.nil K (rL Xa) v_0 a_0) K Xa v_1 a_1) K (rV Xa) v_2 a_2)) (σ:=[some v_0,some v_1,some v_2,none,none,none,none,none]) 1 ?_ (SC.i (SC.i (SC.i SC.t h_0) h_1) h_2) hm q rfl
 unfold Uh
 exact(XH (K:=K) (r:=Xa) 3 (EvB.sh (Ev.toB (Y9 (Xc (r:=(rL Xa)) 0 rfl (λ_ s=>s.l.l.r)) (Xc (r:=Xa) 1 rfl (λ_ s=>s.l.r))))) λa1 v2=>(XH (K:=K) (r:=Xa) 4 (Xz (r:=Xa) 3 rfl (λ_ s=>s.r)) λa6 v7=>(Ya (K:=K) (o:=(oL (oF Xa))) 5 0 (Jg (o:=(oF Xa))) (Nat.le_of_ble_eq_true rfl) λa8 v9 C10=>(Zu (K:=K) (J:=({oo:=λx13=>[x13.2.2.2.2],ss:=λx13=>[some v_0,some v_1,some v_2,some v2,some x13.2.2.1,some x13.2.1,x13.1,x13.2.2.2.1],sc:=λg14 x13=>(SC.add (SC.addO (SC.add (SC.add (SC.add (SC.add SC.nil K (rL Xa) v_0 a_0) K Xa v_1 a_1) K (rV Xa) v_2 a_2) K Xa v2 a1) K (oL (oF Xa)) x13.2.1 g14.1 x13.2.2.2.2) K Xa x13.2.2.1 g14.2)}:Jn ((List Int)×Int) (Option V×V×V×Option V×List XA))) (λ_=>tg1 6) ((none),v9,v7,(none),C10) (a8,a6) (XO (XQ (Xc (r:=(rV Xa)) 2 rfl (λ_ s=>s.l.l.l.r)))) rfl rfl (λ_ s=>(SC.i (SC.i s.l.l s.r) s.l.r)) (λg15 x16 a17 v18=>(Yt (J:=({oo:=λx24=>[x24.2.2.2],ss:=λx24=>[some v_0,some v_1,some v_2,some v2,some x24.2.1,some x24.1,some v18,x24.2.2.1],sc:=λg25 x24=>(SC.add (SC.addO (SC.add (SC.add (SC.add (SC.add (SC.add SC.nil K (rL Xa) v_0 a_0) K Xa v_1 a_1) K (rV Xa) v_2 a_2) K Xa v2 a1) K Xa v18 a17) K (oL (oF Xa)) x24.1 g25.1 x24.2.2.2) K Xa x24.2.1 g25.2)}:Jn ((List Int)×Int) (V×V×Option V×List XA))) (YW (Fd:=FNd ({oo:=λx24=>[x24.2.2.2],ss:=λx24=>[some v_0,some v_1,some v_2,some v2,some x24.2.1,some x24.1,some v18,x24.2.2.1],sc:=λg25 x24=>(SC.add (SC.addO (SC.add (SC.add (SC.add (SC.add (SC.add SC.nil K (rL Xa) v_0 a_0) K Xa v_1 a_1) K (rV Xa) v_2 a_2) K Xa v2 a1) K Xa v18 a17) K (oL (oF Xa)) x24.1 g25.1 x24.2.2.2) K Xa x24.2.1 g25.2)}:Jn ((List Int)×Int) (V×V×Option V×List XA))) (Xl (K:=K) (VG (Xc (r:=Xa) 3 rfl (λ_ s=>s.l.l.l.r)) (Jl (Xe 10) (Xe 18)))) (Jp (K:=K) (o:=(oF Xa)) (f:=λa35=>(Rs.ok (a35,g15.2))) 5 0 rfl rfl rfl (λ_ s=>s.l.l.r) (EvS.ev (EvB.sh (XV (Ev.toB (Y9 (Xc (r:=Xa) 3 rfl (λ_ s=>s.l.l.l.r)) (Xc (r:=Xa) 6 rfl (λ_ s=>s.r)))) (Xr (Xc (r:=(rV Xa)) 2 rfl (λ_ s=>s.l.l.l.l.r)) (Xc (r:=Xa) 6 rfl (λ_ s=>s.r)))))) λa33 C34=>(Xx (J:=_) (x16.2.1,x16.2.2.1,(x16.2.2.2.1),C34) ((g15.1++[a33]),g15.2) rfl rfl (λ_ s=>(SC.i (SC.i (SC.i s.l.l.l.l s.l.r) s.r) s.l.l.r)))) (Yt (J:=({oo:=λx39=>[x39.2.2.2],ss:=λx39=>[some v_0,some v_1,some v_2,some v2,some x39.1,some x39.2.2.1,some v18,x39.2.1],sc:=λg40 x39=>(SC.addO (SC.add (SC.add (SC.add (SC.add (SC.add (SC.add SC.nil K (rL Xa) v_0 a_0) K Xa v_1 a_1) K (rV Xa) v_2 a_2) K Xa v2 a1) K Xa v18 a17) K Xa x39.1 g40.1) K (oL (oF Xa)) x39.2.2.1 g40.2 x39.2.2.2)}:Jn (Int×(List Int)) (V×Option V×V×List XA))) (YW (Fd:=FNd ({oo:=λx39=>[x39.2.2.2],ss:=λx39=>[some v_0,some v_1,some v_2,some v2,some x39.1,some x39.2.2.1,some v18,x39.2.1],sc:=λg40 x39=>(SC.addO (SC.add (SC.add (SC.add (SC.add (SC.add (SC.add SC.nil K (rL Xa) v_0 a_0) K Xa v_1 a_1) K (rV Xa) v_2 a_2) K Xa v2 a1) K Xa v18 a17) K Xa x39.1 g40.1) K (oL (oF Xa)) x39.2.2.1 g40.2 x39.2.2.2)}:Jn (Int×(List Int)) (V×Option V×V×List XA))) (Xl (K:=K) (Jq (Xc (r:=Xa) 4 rfl (λ_ s=>s.l.r)) (Xe 0))) (Jp (K:=K) (o:=(oF Xa)) (f:=λa47=>(Rs.bind (Rs.bind (Rs.ok g15.2) λx52=>(Rs.bind (Rs.bind (Rs.ok a_2) λx50=>(Rs.bind (Rs.ok a17) λx51=>(atR x50 x51))) λx53=>(Ii x52 x53))) λa48=>(Rs.ok (a48,a47)))) 5 0 rfl rfl rfl (λ_ s=>s.l.l.r) (EvS.ev (EvB.sh (XV (Xc (r:=Xa) 4 rfl (λ_ s=>s.l.r)) (Xr (Xc (r:=(rV Xa)) 2 rfl (λ_ s=>s.l.l.l.l.r)) (Xc (r:=Xa) 6 rfl (λ_ s=>s.r)))))) λa45 C46=>(XH (K:=K) (r:=Xa) 4 (EvB.sh (Dc (Xc (r:=Xa) 4 rfl (λ_ s=>s.l.l.r)) (Xr (Xc (r:=(rV Xa)) 2 rfl (λ_ s=>s.l.l.l.l.l.r)) (Xc (r:=Xa) 6 rfl (λ_ s=>s.l.r))))) λa48 v49=>(Xx (J:=_) (v49,(x16.2.2.2.1),x16.2.1,C46) (a48,(g15.1++[a45])) rfl rfl (λ_ s=>(SC.i (SC.i (SC.i s.l.l.l.l.l s.l.l.r) s.r) s.l.r))))) (XH (K:=K) (r:=Xa) 7 (EvB.sh (Ev.toB (Y9 (Xc (r:=(rL Xa)) 0 rfl (λ_ s=>s.l.l.l.l.l.l.r)) (XV (XJ (XJ (Xc (r:=Xa) 1 rfl (λ_ s=>s.l.l.l.l.l.r)) (Xe 1)) (Xc (r:=Xa) 6 rfl (λ_ s=>s.r))) (Xe 63))))) λa54 v55=>(Jp (K:=K) (o:=(oF Xa)) (f:=λa74=>(Rs.ok (g15.2,a74))) 5 0 rfl rfl rfl (λ_ s=>s.l.l.l.r) (EvS.ev (EvB.sh (XV (Ev.toB (Y9 (Xc (r:=Xa) 7 rfl (λ_ s=>s.r)) (Xc (r:=Xa) 6 rfl (λ_ s=>s.l.r)))) (Xr (Xc (r:=(rV Xa)) 2 rfl (λ_ s=>s.l.l.l.l.l.r)) (Xc (r:=Xa) 6 rfl (λ_ s=>s.l.r)))))) λa72 C73=>(Xx (J:=_) (x16.2.2.1,(some v55),x16.2.1,C73) (g15.2,(g15.1++[a72])) rfl rfl (λ_ s=>(SC.i (SC.i (SC.i s.l.l.l.l.l s.l.l.r) s.l.l.l.r) s.r)))))) λg76 x75=>(Xx (J:=_) (x75.2.2.1,x75.1,(x75.2.1),x75.2.2.2) (g76.2,g76.1) rfl rfl (λ_ s=>(SC.i (SC.i s.l.l s.r) s.l.r))))) λg78 x77=>(Xx (J:=_) ((some v18),x77.1,x77.2.1,(x77.2.2.1),x77.2.2.2) (g78.1,g78.2) rfl rfl (λ_ s=>(SC.i (SC.i s.l.l.l s.l.r) s.r))))) λg79 x80=>(XD (YN (o:=(oL (oF Xa))) 5 0 rfl rfl (λ_ s=>s.l.r)))))))
theorem JJ:FnScope ["_law_names","_law_some","_law_left","_law_found","_law_k"] ["_law_names","_law_some"] (Xk KH):=⟨rfl,rfl,rfl,by decide+kernel,rfl,by decide+kernel,by decide+kernel⟩
theorem Ck (D:Def K mg "_law_mixed" KH ["_law_names","_law_some"])(Y:Ecs XM K mg)(N1:XI K mg "NotADrawing" "fault")(Z:Blt mg):Fn P w K mg base 1 "_law_mixed" ["_law_names","_law_some"] (sp2 (rV Xa) (rV Xa) (oL (oF Xa)) Q3 K):=by
 refine Zq D JJ (λvs H Q E h=>?_) (λf cdv A outer s H vs Q E hr h=>?_)
 ·obtain⟨v_0,v_1,a_0,a_1,b,rfl,_⟩:=h;rfl
 obtain⟨v_0,v_1,a_0,a_1,b,rfl,h_0,h_1,hm,q⟩:=h
 have hu:=hu8 hr
 have hu1:=Ze hr
 refine⟨_,(Xb (Xs (i:=2) JJ.nd rfl (Or.inl rfl) (Zt (YI K rfl) rfl Z.b_list PyProof.Rows.boot_list (Xd (pv 0) Xh)))
  (Xb (Xs (i:=3) JJ.nd rfl (Or.inl rfl) (Yn Xh))
  (Xb (Yv PassesOwn.never rfl (Yb rfl Z.b_range (Xd (Xo (Xj K rfl) rfl Z.b_len PySem.boot_len (Xd (pv 0) Xh)) Xh)) (Xy (i:=4) JJ.nd rfl (Or.inl rfl))
   (Xb (XN (Y7 PySem.F.plainAttrs_list PySem.F.slot_list_append PySem.F.type_list_append X6 (pv 3) (Xd (Y7 PySem.F.plainAttrs_list PySem.F.slot_list_pop PySem.F.type_list_pop QR (pv 2) (Xd (Xq Yl (Xu (Xi K rfl) (pv 1) (Xq XZ (Xq YC Xg (pv 4)) Xg) (λ_ _=>rfl)) (Xo (Xj K rfl) rfl Z.b_len PySem.boot_len (Xd (pv 2) Xh))) Xh)) Xh)))
   Xf))
  (Xb (XC (pv 3))
  Xf)))),?_⟩
 refine Zj (S:=(SC.add (SC.add SC.nil K (rV Xa) v_0 a_0) K (rV Xa) v_1 a_1)) (σ:=[some v_0,some v_1,none,none,none]) 2 ?_ (SC.i (SC.i SC.t h_0) h_1) hm q rfl
 unfold Q3
 exact(Ya (K:=K) (o:=(oL (oF Xa))) 2 1 (Q7 (EvS.ls (Xz (r:=(rV Xa)) 0 rfl (λ_ s=>s.l.r)))) (Nat.le_of_ble_eq_true rfl) λa1 v2 C3=>(Ya (K:=K) (o:=(oL (oF Xa))) 3 0 (Jg (o:=(oF Xa))) (Nat.le_of_ble_eq_true rfl) λa5 v6 C7=>(Zu (K:=K) (J:=({oo:=λx10=>[x10.2.2.2.1,x10.2.2.2.2],ss:=λx10=>[some v_0,some v_1,some x10.2.2.1,some x10.2.1,x10.1],sc:=λg11 x10=>(SC.addO (SC.addO (SC.add (SC.add SC.nil K (rV Xa) v_0 a_0) K (rV Xa) v_1 a_1) K (oL (oF Xa)) x10.2.1 g11.1 x10.2.2.2.1) K (oL (oF Xa)) x10.2.2.1 g11.2 x10.2.2.2.2)}:Jn ((List Int)×(List Int)) (Option V×V×V×List XA×List XA))) (λ_=>tg1 4) ((none),v6,v2,C7,C3) (a5,a1) (XO (XQ (Xc (r:=(rV Xa)) 0 rfl (λ_ s=>s.l.l.l.r)))) rfl rfl (λ_ s=>(SC.i (SC.i s.l.l s.r) s.l.r)) (λg12 x13 a14 v15=>(CT (K:=K) (r:=Xa) (f:=λa26 a27=>(Rs.ok (a27,a26))) 2 1 3 0 (by decide) rfl rfl (λ_ s=>s.l.r) rfl rfl (λ_ s=>s.l.l.r) (XV (Xr (Xc (r:=(rV Xa)) 1 rfl (λ_ s=>s.l.l.l.r)) (XJ (X3 (Xe 8) (Xc (r:=Xa) 4 rfl (λ_ s=>s.r))) (Xe 9))) (XQ (XR (o:=(oL (oF Xa))) 2 1 rfl rfl (λ_ s=>s.l.r)))) λa25 a26 C28 C29=>(Xx (J:=_) ((some v15),x13.2.1,x13.2.2.1,C29,C28) ((g12.1++[a25]),a26) rfl rfl (λ_ s=>(SC.i (SC.i s.l.l.l.l.l s.r) s.l.r))))) λg32 x33=>(XD (YN (o:=(oL (oF Xa))) 3 0 rfl rfl (λ_ s=>s.l.r))))))
theorem Vk:FnScope ["_law_names","_law_some","_law_rings","_law_left","_law_one","_law_walks","_law_k","_law_at","_law_passage"] ["_law_names","_law_some","_law_rings"] (Xk Bc):=⟨rfl,rfl,rfl,by decide+kernel,rfl,by decide+kernel,by decide+kernel⟩
theorem HS (D:Def K mg "_law_any" Bc ["_law_names","_law_some","_law_rings"])(Y:Ecs XM K mg)(N1:XI K mg "NotADrawing" "fault")(Z:Blt mg):Fn P w K mg base 1 "_law_any" ["_law_names","_law_some","_law_rings"] (sp3 (rV Xa) (rV Xa) Xa (oL (oL (oF Xa))) G4 K):=by
 refine Zq D Vk (λvs H Q E h=>?_) (λf cdv A outer s H vs Q E hr h=>?_)
 ·obtain⟨v_0,v_1,v_2,a_0,a_1,a_2,b,rfl,_⟩:=h;rfl
 obtain⟨v_0,v_1,v_2,a_0,a_1,a_2,b,rfl,h_0,h_1,h_2,hm,q⟩:=h
 have hu:=hu8 hr
 have hu1:=Ze hr
 refine⟨_,(Xb (Xs (i:=3) Vk.nd rfl (Or.inl rfl) (Yn Xh))
  (Xb (Yv PassesOwn.never rfl (Yo (K:=K) rfl (pv 0)) (Xy (i:=4) Vk.nd rfl (Or.inl rfl))
   (Xb (XN (Y7 PySem.F.plainAttrs_list PySem.F.slot_list_extend PySem.F.type_list_extend Z4 (pv 3) (Xd (Yn (Xd (pv 4) (Xd (Vr Qs (pv 4)) Xh))) Xh Z3)))
   Xf))
  (Xb (Um 5 (Xk Bc) ["_law_names","_law_some","_law_rings","_law_left","_law_one","_law_walks","_law_k","_law_at","_law_passage"] ["_law_k"] [] rfl Vk.nd rfl rfl (Yb rfl Z.b_range (Xd (pv 2) Xh)) (QH (by decide)) (λcl C s H ex E=>⟨Xy (i:=0) (show List.Nodup (["_law_k"]:List Str) by decide+kernel) rfl (Or.inl rfl),QF,(Yn Xh)⟩))
  (Xb (Yv PassesOwn.never rfl (Yb rfl Z.b_range (Xd (Xq YC Xg (Xo (Xj K rfl) rfl Z.b_len PySem.boot_len (Xd (pv 0) Xh))) Xh)) (Xy (i:=6) Vk.nd rfl (Or.inl rfl))
   (Xb (Xs (i:=7) Vk.nd rfl (Or.inl rfl) (Xq XZ (Xq YC Xg (pv 6)) Xg))
   (Xb (Xs (i:=8) Vk.nd rfl (Or.inl rfl) (Y7 PySem.F.plainAttrs_list PySem.F.slot_list_pop PySem.F.type_list_pop QR (pv 3) (Xd (Xq Yl (Xu (Xi K rfl) (pv 1) (pv 7) (λ_ _=>rfl)) (Xo (Xj K rfl) rfl Z.b_len PySem.boot_len (Xd (pv 3) Xh))) Xh)))
   (Xb (XN (Y7 PySem.F.plainAttrs_list PySem.F.slot_list_append PySem.F.type_list_append X6 (Xu (Xi K rfl) (pv 5) (Xq Yl (Xu (Xi K rfl) (pv 1) (Xq XZ (pv 7) Xg) (λ_ _=>rfl)) (pv 2)) (λ_ _=>rfl)) (Xd (pv 8) Xh)))
   Xf))))
  (Xb (XC (pv 5))
  Xf))))),?_⟩
 refine Zj (S:=(SC.add (SC.add (SC.add SC.nil K (rV Xa) v_0 a_0) K (rV Xa) v_1 a_1) K Xa v_2 a_2)) (σ:=[some v_0,some v_1,some v_2,none,none,none,none,none,none]) 2 ?_ (SC.i (SC.i (SC.i SC.t h_0) h_1) h_2) hm q rfl
 unfold G4
 exact(Ya (K:=K) (o:=(oL (oF Xa))) 3 1 (Jg (o:=(oF Xa))) (Nat.le_of_ble_eq_true rfl) λa1 v2 C3=>(Zu (K:=K) (J:=({oo:=λx4=>[[],x4.2.2],ss:=λx4=>[some v_0,some v_1,some v_2,some x4.2.1,x4.1,none,none,none,none],sc:=λg5 x4=>(SC.addO (SC.add (SC.add (SC.add SC.nil K (rV Xa) v_0 a_0) K (rV Xa) v_1 a_1) K Xa v_2 a_2) K (oL (oF Xa)) x4.2.1 g5 x4.2.2)}:Jn ((List Int)) (Option V×V×List XA))) (λ_=>tg1 4) ((none),v2,C3) (a1) (X5 (Xz (r:=(rV Xa)) 0 rfl (λ_ s=>s.l.l.l.r))) rfl rfl (λ_ s=>s) (λg6 x7 a8 v9=>(HR (K:=K) (o:=(oF Xa)) (f:=λa18=>(Rs.ok (a18))) 3 1 rfl rfl rfl (λ_ s=>s.l.r) (Z1 (Xm (Xz (r:=Xa) 4 rfl (λ_ s=>s.r)) (Xm (EvB.sh (ZK (Xc (r:=Xa) 4 rfl (λ_ s=>s.r)))) X9))) λa16 C17=>(Xx (J:=_) ((some v9),x7.2.1,C17) ((g6++a16)) rfl rfl (λ_ s=>(SC.i s.l.l.l s.r))))) λg19 x20=>(Ya (K:=K) (o:=(oL (oL (oF Xa)))) 5 0 (Qv (λ_=>tg1 0) (XO (Xc (r:=Xa) 2 rfl (λ_ s=>s.l.r))) (λC25 a26 v27=>(Jg (o:=(oF Xa))))) (Nat.le_of_ble_eq_true rfl) λa21 v22 C23=>(Zu (K:=K) (J:=({oo:=λx33=>[x33.2.2.2.2.2.2,x33.2.2.2.2.2.1],ss:=λx33=>[some v_0,some v_1,some v_2,some x33.2.2.2.1,x20.1,some x33.2.2.2.2.1,x33.1,x33.2.1,x33.2.2.1],sc:=λg34 x33=>(SC.addO (SC.addO (SC.add (SC.add (SC.add SC.nil K (rV Xa) v_0 a_0) K (rV Xa) v_1 a_1) K Xa v_2 a_2) K (oL (oF Xa)) x33.2.2.2.1 g34.1 x33.2.2.2.2.2.1) K (oL (oL (oF Xa))) x33.2.2.2.2.1 g34.2 x33.2.2.2.2.2.2)}:Jn ((List Int)×(List (List Int))) (Option V×Option V×Option V×V×V×List XA×List XA))) (λ_=>tg1 6) ((none),(none),(none),x20.2.1,v22,x20.2.2,C23) (g19,a21) (XO (X3 (Xe 2) (XQ (Xc (r:=(rV Xa)) 0 rfl (λ_ s=>s.l.l.l.l.r))))) rfl rfl (λ_ s=>s) (λg35 x36 a37 v38=>(XH (K:=K) (r:=Xa) 7 (EvB.sh (XJ (X3 (Xe 4) (Xc (r:=Xa) 6 rfl (λ_ s=>s.r))) (Xe 5))) λa39 v40=>(Iq (K:=K) (r:=Xa) (f:=(λp55=>(λa50 a51=>(Rs.bind (Rs.bind (Rs.bind (Rs.ok a_1) λx58=>(Rs.bind (Rs.bind (Rs.ok a39) λx56=>(Rs.bind (Rs.ok (1:Int)) λx57=>(Rs.ok (x56+x57)))) λx59=>(atR x58 x59))) λx60=>(Rs.bind (Rs.ok a_2) λx61=>(Qd x60 x61))) λx63=>(Rs.bind (atR g35.2 x63) λx64=>(Rs.bind (Rs.ok a50) λx62=>(chk (x64.length<sizeLine) (Rs.bind (Qg g35.2 x63 (x64++[x62])) λa65=>(Rs.ok (a51,a65)))))))) p55.1 p55.2)) 8 3 1 rfl rfl (λ_ s=>s.l.l.l.r) (XV (Xr (Xc (r:=(rV Xa)) 1 rfl (λ_ s=>s.l.l.l.l.l.r)) (Xc (r:=Xa) 7 rfl (λ_ s=>s.r))) (XQ (XR (o:=(oL (oF Xa))) 3 1 rfl rfl (λ_ s=>s.l.l.l.r)))) λa50 a51 v52 C53=>(Uk (K:=K) (r:=Xa) 5 0 rfl rfl (λ_ s=>s.l.l.l.l.r) (Xz (r:=Xa) 8 rfl (λ_ s=>s.l.r)) (XV (Xr (Xc (r:=(rV Xa)) 1 rfl (λ_ s=>s.l.l.l.l.l.l.l.r)) (XJ (Xc (r:=Xa) 7 rfl (λ_ s=>s.l.l.r)) (Xe 1))) (Xc (r:=Xa) 2 rfl (λ_ s=>s.l.l.l.l.l.l.r))) λa65 C66=>(Xx (J:=_) ((some v38),(some v40),(some v52),x36.2.2.2.1,x36.2.2.2.2.1,C53,C66) (a51,a65) rfl rfl (λ_ s=>(SC.i (SC.i s.l.l.l.l.l.l.l s.l.r) s.r))))))) λg67 x68=>(XD (YN (o:=(oL (oL (oF Xa)))) 5 0 rfl rfl (λ_ s=>s.r)))))))
theorem YA:FnScope ["_law_names","_law_signs","_law_some","_law_strands","_law_seen","_law_walks","_law_start","_law_walk","_law_at","_law_k","_law_low"] ["_law_names","_law_signs","_law_some","_law_strands"] (Xk J9):=⟨rfl,rfl,rfl,by decide+kernel,rfl,by decide+kernel,by decide+kernel⟩
theorem GV (D:Def K mg "_law_plaited" J9 ["_law_names","_law_signs","_law_some","_law_strands"])(Y:Ecs XM K mg)(N1:XI K mg "NotADrawing" "fault")(Z:Blt mg):Fn P w K mg base 1 "_law_plaited" ["_law_names","_law_signs","_law_some","_law_strands"] (sp4 (rV Xa) (rD Xa) (rV Xa) Xa (oL (oL (oF Xa))) ZL K):=by
 refine Zq D YA (λvs H Q E h=>?_) (λf cdv A outer s H vs Q E hr h=>?_)
 ·obtain⟨v_0,v_1,v_2,v_3,a_0,a_1,a_2,a_3,b,rfl,_⟩:=h;rfl
 obtain⟨v_0,v_1,v_2,v_3,a_0,a_1,a_2,a_3,b,rfl,h_0,h_1,h_2,h_3,hm,q⟩:=h
 have hu:=hu8 hr
 have hu1:=Ze hr
 refine⟨_,(Xb (Xs (i:=4) YA.nd rfl (Or.inl rfl) (Xq Fu (Yn (Xd Zs Xh)) (pv 3)))
  (Xb (Xs (i:=5) YA.nd rfl (Or.inl rfl) (Yn Xh))
  (Xb (Yv PassesOwn.never rfl (Yb rfl Z.b_range (Xd (pv 3) Xh)) (Xy (i:=6) YA.nd rfl (Or.inl rfl))
   (Xb (XW (Zi (YR (Xu (Xi K rfl) (pv 4) (pv 6) (λ_ _=>rfl))))
    (Xb (Xs (i:=7) YA.nd rfl (Or.inl rfl) (Yn Xh))
    (Xb (Xs (i:=8) YA.nd rfl (Or.inl rfl) (pv 6))
    (Xb (Co PassesOwn.never (Zi (YR (Xu (Xi K rfl) (pv 4) (pv 8) (λ_ _=>rfl))))
     (Xb (Z8 Zs (UQ (pv 4) (pv 8) QQ))
     (Xb (Yv PassesOwn.never rfl (Yb rfl Z.b_range (Xd (Xo (Xj K rfl) rfl Z.b_len PySem.boot_len (Xd (pv 0) Xh)) Xh)) (Xy (i:=9) YA.nd rfl (Or.inl rfl))
      (Xb (Xs (i:=10) YA.nd rfl (Or.inl rfl) (Xq Yl (Xu (Xi K rfl) (pv 2) (Xq XZ (Xq YC Xg (pv 9)) Xg) (λ_ _=>rfl)) (Xq QS (pv 3) Xg)))
      (Xb (XW (Xp ZH (pv 8) (pv 10) (XE _))
       (Xb (XN (Y7 PySem.F.plainAttrs_list PySem.F.slot_list_append PySem.F.type_list_append X6 (pv 7) (Xd (Xq YC (Xu (Xi K rfl) (pv 0) (pv 9) (λ_ _=>rfl)) (KW hu1 (pv 1) (Xu (Xi K rfl) (pv 0) (pv 9) (λ_ _=>rfl)) (λ_ _=>rfl))) Xh)))
       (Xb (Xs (i:=8) YA.nd rfl (Or.inl rfl) (Xq XZ (pv 10) Xg))
       Xf))
       (Xb (XW (Xp ZH (pv 8) (Xq XZ (pv 10) Xg) (XE _))
        (Xb (XN (Y7 PySem.F.plainAttrs_list PySem.F.slot_list_append PySem.F.type_list_append X6 (pv 7) (Xd (Xq YC (Vr Qs (Xu (Xi K rfl) (pv 0) (pv 9) (λ_ _=>rfl))) (KW hu1 (pv 1) (Xu (Xi K rfl) (pv 0) (pv 9) (λ_ _=>rfl)) (λ_ _=>rfl))) Xh)))
        (Xb (Xs (i:=8) YA.nd rfl (Or.inl rfl) (pv 10))
        Xf))
        Xf)
       Xf))
      Xf)))
     Xf)))
    (Xb (XN (Y7 PySem.F.plainAttrs_list PySem.F.slot_list_append PySem.F.type_list_append X6 (pv 5) (Xd (pv 7) Xh)))
    Xf))))
    Xf)
   Xf))
  (Xb (XC (pv 5))
  Xf)))),?_⟩
 refine Zj (S:=(SC.add (SC.add (SC.add (SC.add SC.nil K (rV Xa) v_0 a_0) K (rD Xa) v_1 a_1) K (rV Xa) v_2 a_2) K Xa v_3 a_3)) (σ:=[some v_0,some v_1,some v_2,some v_3,none,none,none,none,none,none,none]) 3 ?_ (SC.i (SC.i (SC.i (SC.i SC.t h_0) h_1) h_2) h_3) hm q rfl
 unfold ZL
 exact(Ya (K:=K) (o:=(oL (oF Xt))) 4 1 (Dn (Ev.ls (Z1 (Xm (EvB.sh (YE false)) X9))) (Xc (r:=Xa) 3 rfl (λ_ s=>s.r))) (Nat.le_of_ble_eq_true rfl) λa1 v2 C3=>(Ya (K:=K) (o:=(oL (oL (oF Xa)))) 5 0 (Jg (o:=(oL (oF Xa)))) (Nat.le_of_ble_eq_true rfl) λa9 v10 C11=>(Zu (K:=K) (J:=({oo:=λx13=>[x13.2.2.2.2.2.2.2.2,x13.2.2.2.2.2.2.2.1,[]],ss:=λx13=>[some v_0,some v_1,some v_2,some v_3,some x13.2.2.2.1,some x13.2.2.2.2.2.1,x13.1,x13.2.1,x13.2.2.1,x13.2.2.2.2.1,x13.2.2.2.2.2.2.1],sc:=λg14 x13=>(SC.addO (SC.addO (SC.add (SC.add (SC.add (SC.add SC.nil K (rV Xa) v_0 a_0) K (rD Xa) v_1 a_1) K (rV Xa) v_2 a_2) K Xa v_3 a_3) K (oL (oF Xt)) x13.2.2.2.1 g14.1 x13.2.2.2.2.2.2.2.1) K (oL (oL (oF Xa))) x13.2.2.2.2.2.1 g14.2 x13.2.2.2.2.2.2.2.2)}:Jn ((List Bool)×(List (List Int))) (Option V×Option V×Option V×V×Option V×V×Option V×List XA×List XA))) (λ_=>tg1 6) ((none),(none),(none),v2,(none),v10,(none),C3,C11) (a1,a9) (XO (Xc (r:=Xa) 3 rfl (λ_ s=>s.l.l.r))) rfl rfl (λ_ s=>s) (λg15 x16 a17 v18=>(Yt (J:=({oo:=λx23=>[x23.2.2.2.2.2.2.2,x23.2.2.2.2.2.2.1,[]],ss:=λx23=>[some v_0,some v_1,some v_2,some v_3,some x23.2.2.1,some x23.2.2.2.2.1,some v18,x23.1,x23.2.1,x23.2.2.2.1,x23.2.2.2.2.2.1],sc:=λg24 x23=>(SC.addO (SC.addO (SC.add (SC.add (SC.add (SC.add (SC.add SC.nil K (rV Xa) v_0 a_0) K (rD Xa) v_1 a_1) K (rV Xa) v_2 a_2) K Xa v_3 a_3) K Xa v18 a17) K (oL (oF Xt)) x23.2.2.1 g24.1 x23.2.2.2.2.2.2.1) K (oL (oL (oF Xa))) x23.2.2.2.2.1 g24.2 x23.2.2.2.2.2.2.2)}:Jn ((List Bool)×(List (List Int))) (Option V×Option V×V×Option V×V×Option V×List XA×List XA))) (YW (Fd:=FNd ({oo:=λx23=>[x23.2.2.2.2.2.2.2,x23.2.2.2.2.2.2.1,[]],ss:=λx23=>[some v_0,some v_1,some v_2,some v_3,some x23.2.2.1,some x23.2.2.2.2.1,some v18,x23.1,x23.2.1,x23.2.2.2.1,x23.2.2.2.2.2.1],sc:=λg24 x23=>(SC.addO (SC.addO (SC.add (SC.add (SC.add (SC.add (SC.add SC.nil K (rV Xa) v_0 a_0) K (rD Xa) v_1 a_1) K (rV Xa) v_2 a_2) K Xa v_3 a_3) K Xa v18 a17) K (oL (oF Xt)) x23.2.2.1 g24.1 x23.2.2.2.2.2.2.1) K (oL (oL (oF Xa))) x23.2.2.2.2.1 g24.2 x23.2.2.2.2.2.2.2)}:Jn ((List Bool)×(List (List Int))) (Option V×Option V×V×Option V×V×Option V×List XA×List XA))) (YD (Zo (K:=K) (Xr (XR (o:=(oL (oF Xt))) 4 1 rfl rfl (λ_ s=>s.l.l.r)) (Xc (r:=Xa) 6 rfl (λ_ s=>s.r))))) (Ya (K:=K) (o:=(oL (oF Xa))) 7 2 (Jg (o:=(oF Xa))) (Nat.le_of_ble_eq_true rfl) λa25 v26 C27=>(XH (K:=K) (r:=Xa) 8 (Xz (r:=Xa) 6 rfl (λ_ s=>s.l.r)) λa28 v29=>(CG (J:=({oo:=λx30=>[x16.2.2.2.2.2.2.2.2,x30.2.2.2.2.2.1,x30.2.2.2.2.2.2],ss:=λx30=>[some v_0,some v_1,some v_2,some v_3,some x30.1,some x16.2.2.2.2.2.1,some v18,some x30.2.2.2.2.1,some x30.2.2.2.1,x30.2.1,x30.2.2.1],sc:=λg31 x30=>(SC.addO (SC.add (SC.addO (SC.add (SC.addO (SC.add (SC.add (SC.add (SC.add SC.nil K (rV Xa) v_0 a_0) K (rD Xa) v_1 a_1) K (rV Xa) v_2 a_2) K Xa v_3 a_3) K (oL (oL (oF Xa))) x16.2.2.2.2.2.1 g15.2 x16.2.2.2.2.2.2.2.2) K Xa v18 a17) K (oL (oF Xt)) x30.1 g31.1 x30.2.2.2.2.2.1) K Xa x30.2.2.2.1 g31.2.1) K (oL (oF Xa)) x30.2.2.2.2.1 g31.2.2 x30.2.2.2.2.2.2)}:Jn ((List Bool)×Int×(List Int)) (V×Option V×Option V×V×V×List XA×List XA))) (a_3.natAbs+2) (x16.2.2.2.1,(x16.2.2.2.2.1),(x16.2.2.2.2.2.2.1),v29,v26,x16.2.2.2.2.2.2.2.1,C27) (g15.1,a28,a25) rfl rfl (λ_ s=>(SC.i (SC.i (SC.i (SC.i (SC.i s.l.l.l.l.l s.l.l.l.r) s.l.l.r) s.l.l.l.l.r) s.r) s.l.r)) (λg32 x33=>(YD (Zo (K:=K) (Xr (XR (o:=(oL (oF Xt))) 4 1 rfl rfl (λ_ s=>s.l.l.r)) (Xc (r:=Xa) 8 rfl (λ_ s=>s.l.r)))))) (λg32 x33=>(JC (K:=K) (o:=(oF Xt)) 4 1 rfl rfl (λ_ s=>s.l.l.r) (EvS.ev (EvB.sh (YE true))) (λ_=>(Xc (r:=Xa) 8 rfl (λ_ s=>s.l.r))) λa39 C40=>(Zu (K:=K) (J:=({oo:=λx43=>[x16.2.2.2.2.2.2.2.2,C40,x43.2.2.2.2],ss:=λx43=>[some v_0,some v_1,some v_2,some v_3,some x33.1,some x16.2.2.2.2.2.1,some v18,some x43.2.2.2.1,some x43.2.2.1,x43.1,x43.2.1],sc:=λg44 x43=>(SC.addO (SC.add (SC.addO (SC.add (SC.addO (SC.add (SC.add (SC.add (SC.add SC.nil K (rV Xa) v_0 a_0) K (rD Xa) v_1 a_1) K (rV Xa) v_2 a_2) K Xa v_3 a_3) K (oL (oL (oF Xa))) x16.2.2.2.2.2.1 g15.2 x16.2.2.2.2.2.2.2.2) K Xa v18 a17) K (oL (oF Xt)) x33.1 a39 C40) K Xa x43.2.2.1 g44.1) K (oL (oF Xa)) x43.2.2.2.1 g44.2 x43.2.2.2.2)}:Jn (Int×(List Int)) (Option V×Option V×V×V×List XA))) (λ_=>tg1 9) ((x33.2.1),(x33.2.2.1),x33.2.2.2.1,x33.2.2.2.2.1,x33.2.2.2.2.2.2) (g32.2.1,g32.2.2) (XO (XQ (Xc (r:=(rV Xa)) 0 rfl (λ_ s=>s.l.l.l.l.l.l.l.l.l.r)))) rfl rfl (λ_ s=>(SC.i (SC.i (SC.i s.l.l.l.l s.r) s.l.l.r) s.l.r)) (λg45 x46 a47 v48=>(XH (K:=K) (r:=Xa) 10 (EvB.sh (XV (Xr (Xc (r:=(rV Xa)) 2 rfl (λ_ s=>s.l.l.l.l.l.l.l.r)) (XJ (X3 (Xe 8) (Xc (r:=Xa) 9 rfl (λ_ s=>s.r))) (Xe 10))) (ZY (Xc (r:=Xa) 3 rfl (λ_ s=>s.l.l.l.l.l.l.r)) (Xe 1)))) λa49 v50=>(Yt (J:=({oo:=λx64=>[x16.2.2.2.2.2.2.2.2,C40,x64.2.2],ss:=λx64=>[some v_0,some v_1,some v_2,some v_3,some x33.1,some x16.2.2.2.2.2.1,some v18,some x64.2.1,some x64.1,some v48,some v50],sc:=λg65 x64=>(SC.addO (SC.add (SC.add (SC.add (SC.addO (SC.add (SC.addO (SC.add (SC.add (SC.add (SC.add SC.nil K (rV Xa) v_0 a_0) K (rD Xa) v_1 a_1) K (rV Xa) v_2 a_2) K Xa v_3 a_3) K (oL (oL (oF Xa))) x16.2.2.2.2.2.1 g15.2 x16.2.2.2.2.2.2.2.2) K Xa v18 a17) K (oL (oF Xt)) x33.1 a39 C40) K Xa v48 a47) K Xa v50 a49) K Xa x64.1 g65.1) K (oL (oF Xa)) x64.2.1 g65.2 x64.2.2)}:Jn (Int×(List Int)) (V×V×List XA))) (YW (Fd:=FNd ({oo:=λx64=>[x16.2.2.2.2.2.2.2.2,C40,x64.2.2],ss:=λx64=>[some v_0,some v_1,some v_2,some v_3,some x33.1,some x16.2.2.2.2.2.1,some v18,some x64.2.1,some x64.1,some v48,some v50],sc:=λg65 x64=>(SC.addO (SC.add (SC.add (SC.add (SC.addO (SC.add (SC.addO (SC.add (SC.add (SC.add (SC.add SC.nil K (rV Xa) v_0 a_0) K (rD Xa) v_1 a_1) K (rV Xa) v_2 a_2) K Xa v_3 a_3) K (oL (oL (oF Xa))) x16.2.2.2.2.2.1 g15.2 x16.2.2.2.2.2.2.2.2) K Xa v18 a17) K (oL (oF Xt)) x33.1 a39 C40) K Xa v48 a47) K Xa v50 a49) K Xa x64.1 g65.1) K (oL (oF Xa)) x64.2.1 g65.2 x64.2.2)}:Jn (Int×(List Int)) (V×V×List XA))) (Xl (K:=K) (YS (Xc (r:=Xa) 8 rfl (λ_ s=>s.l.l.l.r)) (Xc (r:=Xa) 10 rfl (λ_ s=>s.r)))) (Jp (K:=K) (o:=(oF Xa)) (f:=λa76=>(Rs.bind (Rs.bind (Rs.ok a49) λx79=>(Rs.bind (Rs.ok (1:Int)) λx80=>(Rs.ok (x79+x80)))) λa77=>(Rs.ok (a77,a76)))) 7 2 rfl rfl rfl (λ_ s=>s.l.l.r) (EvS.ev (EvB.sh (X3 (Xr (Xc (r:=(rV Xa)) 0 rfl (λ_ s=>s.l.l.l.l.l.l.l.l.l.l.r)) (Xc (r:=Xa) 9 rfl (λ_ s=>s.l.r))) (Up (Xc (r:=(rD Xa)) 1 rfl (λ_ s=>s.l.l.l.l.l.l.l.l.l.r)) (Xr (Xc (r:=(rV Xa)) 0 rfl (λ_ s=>s.l.l.l.l.l.l.l.l.l.l.r)) (Xc (r:=Xa) 9 rfl (λ_ s=>s.l.r))))))) λa74 C75=>(XH (K:=K) (r:=Xa) 8 (EvB.sh (XJ (Xc (r:=Xa) 10 rfl (λ_ s=>s.l.r)) (Xe 1))) λa77 v78=>(Xx (J:=_) (v78,x46.2.2.2.1,C75) (a77,(g45.2++[a74])) rfl rfl (λ_ s=>(SC.i (SC.i (SC.i (SC.i s.l.l.l.l.l.l s.l.l.l.r) s.l.l.r) s.r) s.l.r))))) (Yt (J:=({oo:=λx86=>[x16.2.2.2.2.2.2.2.2,C40,x86.2.2],ss:=λx86=>[some v_0,some v_1,some v_2,some v_3,some x33.1,some x16.2.2.2.2.2.1,some v18,some x86.2.1,some x86.1,some v48,some v50],sc:=λg87 x86=>(SC.addO (SC.add (SC.add (SC.add (SC.addO (SC.add (SC.addO (SC.add (SC.add (SC.add (SC.add SC.nil K (rV Xa) v_0 a_0) K (rD Xa) v_1 a_1) K (rV Xa) v_2 a_2) K Xa v_3 a_3) K (oL (oL (oF Xa))) x16.2.2.2.2.2.1 g15.2 x16.2.2.2.2.2.2.2.2) K Xa v18 a17) K (oL (oF Xt)) x33.1 a39 C40) K Xa v48 a47) K Xa v50 a49) K Xa x86.1 g87.1) K (oL (oF Xa)) x86.2.1 g87.2 x86.2.2)}:Jn (Int×(List Int)) (V×V×List XA))) (YW (Fd:=FNd ({oo:=λx86=>[x16.2.2.2.2.2.2.2.2,C40,x86.2.2],ss:=λx86=>[some v_0,some v_1,some v_2,some v_3,some x33.1,some x16.2.2.2.2.2.1,some v18,some x86.2.1,some x86.1,some v48,some v50],sc:=λg87 x86=>(SC.addO (SC.add (SC.add (SC.add (SC.addO (SC.add (SC.addO (SC.add (SC.add (SC.add (SC.add SC.nil K (rV Xa) v_0 a_0) K (rD Xa) v_1 a_1) K (rV Xa) v_2 a_2) K Xa v_3 a_3) K (oL (oL (oF Xa))) x16.2.2.2.2.2.1 g15.2 x16.2.2.2.2.2.2.2.2) K Xa v18 a17) K (oL (oF Xt)) x33.1 a39 C40) K Xa v48 a47) K Xa v50 a49) K Xa x86.1 g87.1) K (oL (oF Xa)) x86.2.1 g87.2 x86.2.2)}:Jn (Int×(List Int)) (V×V×List XA))) (Xl (K:=K) (YS (Xc (r:=Xa) 8 rfl (λ_ s=>s.l.l.l.r)) (XJ (Xc (r:=Xa) 10 rfl (λ_ s=>s.r)) (Xe 1)))) (Jp (K:=K) (o:=(oF Xa)) (f:=λa99=>(Rs.bind (Rs.ok a49) λa100=>(Rs.ok (a100,a99)))) 7 2 rfl rfl rfl (λ_ s=>s.l.l.r) (EvS.ev (EvB.sh (X3 (ZK (Xr (Xc (r:=(rV Xa)) 0 rfl (λ_ s=>s.l.l.l.l.l.l.l.l.l.l.r)) (Xc (r:=Xa) 9 rfl (λ_ s=>s.l.r)))) (Up (Xc (r:=(rD Xa)) 1 rfl (λ_ s=>s.l.l.l.l.l.l.l.l.l.r)) (Xr (Xc (r:=(rV Xa)) 0 rfl (λ_ s=>s.l.l.l.l.l.l.l.l.l.l.r)) (Xc (r:=Xa) 9 rfl (λ_ s=>s.l.r))))))) λa97 C98=>(XH (K:=K) (r:=Xa) 8 (Xz (r:=Xa) 10 rfl (λ_ s=>s.l.r)) λa100 v101=>(Xx (J:=_) (v101,x46.2.2.2.1,C98) (a100,(g45.2++[a97])) rfl rfl (λ_ s=>(SC.i (SC.i (SC.i (SC.i s.l.l.l.l.l.l s.l.l.l.r) s.l.l.r) s.r) s.l.r))))) (Xx (J:=_) (x46.2.2.1,x46.2.2.2.1,x46.2.2.2.2) (g45.1,g45.2) rfl rfl (λ_ s=>(SC.i (SC.i (SC.i (SC.i s.l.l.l.l s.l.r) s.r) s.l.l.l.r) s.l.l.r)))) λg103 x102=>(Xx (J:=_) (x102.1,x102.2.1,x102.2.2) (g103.1,g103.2) rfl rfl (λ_ s=>s)))) λg105 x104=>(Xx (J:=_) ((some v48),(some v50),x104.1,x104.2.1,x104.2.2) (g105.1,g105.2) rfl rfl (λ_ s=>(SC.i (SC.i s.l.l.l.l s.l.r) s.r)))))) λg106 x107=>(Xx (J:=_) (x33.1,(x107.1),(x107.2.1),x107.2.2.1,x107.2.2.2.1,C40,x107.2.2.2.2) (a39,g106.1,g106.2) rfl rfl (λ_ s=>s))))) λg109 x110=>(Jp (K:=K) (o:=(oL (oF Xa))) (f:=λa113=>(Rs.ok (g109.1,a113))) 5 0 rfl rfl rfl (λ_ s=>s.l.l.l.l.r) (YN (o:=(oL (oF Xa))) 7 2 rfl rfl (λ_ s=>s.r)) λa111 C112=>(Xx (J:=_) ((some x110.2.2.2.2.1),(some x110.2.2.2.1),x110.1,(x110.2.1),x16.2.2.2.2.2.1,(x110.2.2.1),x110.2.2.2.2.2.1,C112) (g109.1,(g15.2++[a111])) rfl rfl (λ_ s=>(SC.i (SC.i (SC.i s.l.l.l.l.l.l s.l.l.l.l.r) s.l.l.l.r) s.r))))))) (Xx (J:=_) ((x16.2.1),(x16.2.2.1),x16.2.2.2.1,(x16.2.2.2.2.1),x16.2.2.2.2.2.1,(x16.2.2.2.2.2.2.1),x16.2.2.2.2.2.2.2.1,x16.2.2.2.2.2.2.2.2) (g15.1,g15.2) rfl rfl (λ_ s=>(SC.i (SC.i (SC.i s.l.l.l s.r) s.l.l.r) s.l.r)))) λg115 x114=>(Xx (J:=_) ((some v18),(x114.1),(x114.2.1),x114.2.2.1,(x114.2.2.2.1),x114.2.2.2.2.1,(x114.2.2.2.2.2.1),x114.2.2.2.2.2.2.1,x114.2.2.2.2.2.2.2) (g115.1,g115.2) rfl rfl (λ_ s=>(SC.i (SC.i s.l.l.l s.l.r) s.r))))) λg116 x117=>(XD (YN (o:=(oL (oL (oF Xa)))) 5 0 rfl rfl (λ_ s=>s.r))))))
theorem YX:FnScope ["_law_script","_law_place","_law_most","_law_sizes","_law_some","_law_names","_law_signs","_law_last","_law_k","_law_step","_law_walks","_law_rings"] ["_law_script","_law_place","_law_most"] (Xk Uq):=⟨rfl,rfl,rfl,by decide+kernel,rfl,by decide+kernel,by decide+kernel⟩
theorem CB (D:Def K mg "_law_drawn" Uq ["_law_script","_law_place","_law_most"])(g_row:Fn P w K mg base 2 "_law_row" ["_law_script","_law_place","_law_sizes"] (sp3 (rL Xa) Xa (rV Xa) (oL (oF Xa)) Uh K))(g_plaited:Fn P w K mg base 1 "_law_plaited" ["_law_names","_law_signs","_law_some","_law_strands"] (sp4 (rV Xa) (rD Xa) (rV Xa) Xa (oL (oL (oF Xa))) ZL K))(g_any:Fn P w K mg base 1 "_law_any" ["_law_names","_law_some","_law_rings"] (sp3 (rV Xa) (rV Xa) Xa (oL (oL (oF Xa))) G4 K))(g_mixed:Fn P w K mg base 1 "_law_mixed" ["_law_names","_law_some"] (sp2 (rV Xa) (rV Xa) (oL (oF Xa)) Q3 K))(Y:Ecs XM K mg)(N1:XI K mg "NotADrawing" "fault")(Z:Blt mg):Fn P w K mg base 3 "_law_drawn" ["_law_script","_law_place","_law_most"] (sp3 (rL Xa) Xa Xa (oT2 (oL (oL (oF Xa))) (oL (oF (rP2 Xa Xa)))) Jk K):=by
 refine Zq D YX (λvs H Q E h=>?_) (λf cdv A outer s H vs Q E hr h=>?_)
 ·obtain⟨v_0,v_1,v_2,a_0,a_1,a_2,b,rfl,_⟩:=h;rfl
 obtain⟨v_0,v_1,v_2,a_0,a_1,a_2,b,rfl,h_0,h_1,h_2,hm,q⟩:=h
 have hu:=hu8 hr
 have hu1:=Ze hr
 refine⟨_,(Xb (Xs (i:=3) YX.nd rfl (Or.inl rfl) (Yn (Xd (Xq XZ (pv 2) Xg) (Xd Xg (Xd Xg (Xd Xg (Xd Xg Xh)))))))
  (Xb (Xs (i:=4) YX.nd rfl (Or.inl rfl) (Yj g_row hr (by decide) (Xd (pv 0) (Xd (pv 1) (Xd (Xq K7 (pv 3) (Xq Fu (Yn (Xd Xg (Xd Xg (Xd Xg (Xd Xg Xh))))) (Xq YC Xg (pv 2)))) Xh)))))
  (Xb (Xs (i:=5) YX.nd rfl (Or.inl rfl) (Yn Xh))
  (Xb (Xs (i:=6) YX.nd rfl (Or.inr rfl) V7)
  (Xb (Xs (i:=7) YX.nd rfl (Or.inl rfl) Xg)
  (Xb (Yv PassesOwn.never rfl (Yb rfl Z.b_range (Xd (Xu (Xi K rfl) (pv 4) Xg (λ_ _=>rfl)) Xh)) (Xy (i:=8) YX.nd rfl (Or.inl rfl))
   (Xb (Xs (i:=9) YX.nd rfl (Or.inl rfl) (Xq YC (Xu (Xi K rfl) (pv 4) (Xq XZ (Xq YC Xg (pv 8)) Xg) (λ_ _=>rfl)) (Xu (Xi K rfl) (Yn (Xd Xg (Xd Xg (Xd (Xq VS Xg Xg) Xh)))) (Xu (Xi K rfl) (pv 4) Xg (λ_ _=>rfl)) (λ_ _=>rfl))))
   (Xb (Xs (i:=7) YX.nd rfl (Or.inl rfl) (Xq XZ (Xq XZ (pv 7) Xg) (pv 9)))
   (Xb (XN (Y7 PySem.F.plainAttrs_list PySem.F.slot_list_append PySem.F.type_list_append X6 (pv 5) (Xd (pv 7) Xh)))
   (Xb (KG hu1 (pv 6) (pv 7) (Xq QS (Xq YC Xg (Xu (Xi K rfl) (pv 4) (Xq XZ (Xq YC Xg (pv 8)) Xg) (λ_ _=>rfl))) Xg) rfl)
   Xf)))))
  (Xb (XW (Xp GW (Xu (Xi K rfl) (pv 4) Xg (λ_ _=>rfl)) Xg (XE _))
   (Xb (Xs (i:=10) YX.nd rfl (Or.inl rfl) (Yj g_plaited hr (by decide) (Xd (Yj g_mixed hr (by decide) (Xd (pv 5) (Xd (pv 4) Xh))) (Xd (pv 6) (Xd (pv 4) (Xd (Xq XZ Xg (Xu (Xi K rfl) (pv 4) Xg (λ_ _=>rfl))) Xh))))))
   Xf)
   (Xb (Xs (i:=11) YX.nd rfl (Or.inl rfl) (Xo (DA rfl) rfl Z.b_max PyProof.Rows.boot_max (Xd (Xu (Xi K rfl) (pv 4) Xg (λ_ _=>rfl)) (Xd (Xo (DI rfl) rfl Z.b_min PyProof.Rows.boot_min (Xd (Xo (Xj K rfl) rfl Z.b_len PySem.boot_len (Xd (pv 5) Xh)) (Xd Xg Xh))) Xh))))
   (Xb (Xs (i:=10) YX.nd rfl (Or.inl rfl) (Yj g_any hr (by decide) (Xd (pv 5) (Xd (pv 4) (Xd (pv 11) Xh)))))
   Xf)))
  (Xb (XC (X7 (Xd (pv 10) (Xd (JI (sc:=(Xk Uq)) (N0:=["_law_script","_law_place","_law_most","_law_sizes","_law_some","_law_names","_law_signs","_law_last","_law_k","_law_step","_law_walks","_law_rings"]) (tns:=["_law_one"]) (caps:=[(6,"_law_signs")]) rfl (Yo (K:=K) rfl (pv 5)) (QH (by decide)) (λcl C s H ex E=>⟨Xy (i:=0) (show List.Nodup (["_law_one","_law_signs"]:List Str) by decide+kernel) rfl (Or.inl rfl),QF,(X7 (Xd (pv 0) (Xd (KW hu1 (pv 1) (pv 0) (λ_ _=>rfl)) Xh)))⟩)) Xh))))
  Xf)))))))),?_⟩
 refine Zj (S:=(SC.add (SC.add (SC.add SC.nil K (rL Xa) v_0 a_0) K Xa v_1 a_1) K Xa v_2 a_2)) (σ:=[some v_0,some v_1,some v_2,none,none,none,none,none,none,none,none,none]) 3 ?_ (SC.i (SC.i (SC.i SC.t h_0) h_1) h_2) hm q rfl
 unfold Jk
 exact(XH (K:=K) (r:=(rV Xa)) 3 (Ev.sh (Z1 (Xm (EvB.sh (XJ (Xc (r:=Xa) 2 rfl (λ_ s=>s.r)) (Xe 1))) (Xm (EvB.sh (Xe 5)) (Xm (EvB.sh (Xe 4)) (Xm (EvB.sh (Xe 3)) (Xm (EvB.sh (Xe 3)) X9))))))) λa1 v2=>(XH (K:=K) (r:=(rV Xa)) 4 (Ev.sh (ZZ (Xc (r:=(rL Xa)) 0 rfl (λ_ s=>s.l.l.l.r)) (Xc (r:=Xa) 1 rfl (λ_ s=>s.l.l.r)) (Ev.toB (F7 (EvS.ls (Xz (r:=(rV Xa)) 3 rfl (λ_ s=>s.r))) (Ev.ls (Dn (Ev.ls (Z1 (Xm (EvB.sh (Xe 80)) (Xm (EvB.sh (Xe 5)) (Xm (EvB.sh (Xe 2)) (Xm (EvB.sh (Xe 3)) X9)))))) (X3 (Xe 2) (Xc (r:=Xa) 2 rfl (λ_ s=>s.l.r))))))))) λa16 v17=>(Ya (K:=K) (o:=(oL (oF Xa))) 5 2 (Jg (o:=(oF Xa))) (Nat.le_of_ble_eq_true rfl) λa37 v38 C39=>(Ya (K:=K) (o:=(oD Xa)) 6 1 (Kk (r:=Xa)) (Nat.le_of_ble_eq_true rfl) λa40 v41 C42=>(XH (K:=K) (r:=Xa) 7 (EvB.sh (Xe 0)) λa43 v44=>(Zu (K:=K) (J:=({oo:=λx48=>[[],x48.2.2.2.2.2.1,x48.2.2.2.2.2.2],ss:=λx48=>[some v_0,some v_1,some v_2,some v2,some v17,some x48.2.2.2.2.1,some x48.2.2.2.1,some x48.2.2.1,x48.1,x48.2.1,none,none],sc:=λg49 x48=>(SC.addO (SC.addO (SC.add (SC.add (SC.add (SC.add (SC.add (SC.add SC.nil K (rL Xa) v_0 a_0) K Xa v_1 a_1) K Xa v_2 a_2) K (rV Xa) v2 a1) K (rV Xa) v17 a16) K Xa x48.2.2.1 g49.1) K (oD Xa) x48.2.2.2.1 g49.2.1 x48.2.2.2.2.2.1) K (oL (oF Xa)) x48.2.2.2.2.1 g49.2.2 x48.2.2.2.2.2.2)}:Jn (Int×(List (Int×Int))×(List Int)) (Option V×Option V×V×V×V×List XA×List XA))) (λ_=>tg1 8) ((none),(none),v44,v41,v38,C42,C39) (a43,a40,a37) (XO (Xr (Xc (r:=(rV Xa)) 4 rfl (λ_ s=>s.l.l.l.r)) (Xe 0))) rfl rfl (λ_ s=>(SC.i (SC.i (SC.i s.l.l.l s.r) s.l.r) s.l.l.r)) (λg50 x51 a52 v53=>(XH (K:=K) (r:=Xa) 9 (EvB.sh (X3 (Xr (Xc (r:=(rV Xa)) 4 rfl (λ_ s=>s.l.l.l.l.r)) (XJ (X3 (Xe 8) (Xc (r:=Xa) 8 rfl (λ_ s=>s.r))) (Xe 8))) (Xr (Ev.toB (Z1 (Xm (EvB.sh (Xe 0)) (Xm (EvB.sh (Xe 1)) (Xm (EvB.sh (Jl (Xe 10) (Xe 58))) X9))))) (Xr (Xc (r:=(rV Xa)) 4 rfl (λ_ s=>s.l.l.l.l.r)) (Xe 3))))) λa54 v55=>(XH (K:=K) (r:=Xa) 7 (EvB.sh (XJ (XJ (Xc (r:=Xa) 7 rfl (λ_ s=>s.l.l.l.l.r)) (Xe 1)) (Xc (r:=Xa) 9 rfl (λ_ s=>s.r)))) λa77 v78=>(Jp (K:=K) (o:=(oF Xa)) (f:=λa85=>(Rs.bind (Rs.bind (Rs.bind (Rs.ok (2:Int)) λx92=>(Rs.bind (Rs.bind (Rs.ok a16) λx90=>(Rs.bind (Rs.bind (Rs.bind (Rs.ok (8:Int)) λx86=>(Rs.bind (Rs.ok a52) λx87=>(QE x86 x87))) λx88=>(Rs.bind (Rs.ok (7:Int)) λx89=>(Rs.ok (x88+x89)))) λx91=>(atR x90 x91))) λx93=>(QE x92 x93))) λx94=>(Rs.bind (Rs.ok (1:Int)) λx95=>(Rs.ok (x94-x95)))) λx96=>(Rs.bind (Rs.ok a77) λx97=>(chk (g50.2.1.length<sizeLine) ((λa98=>(Rs.ok (a77,a98,a85))) (Q1 g50.2.1 x97 x96)))))) 5 2 rfl rfl rfl (λ_ s=>s.l.l.l.r) (EvS.ev (Xz (r:=Xa) 7 rfl (λ_ s=>s.r))) λa83 C84=>(Ko (K:=K) (r:=Xa) (f:=λa98=>(Rs.ok (a77,a98,(g50.2.2++[a83])))) 6 1 rfl rfl (λ_ s=>s.l.l.l.l.l.r) (EvB.sh (ZY (X3 (Xe 2) (Xr (Xc (r:=(rV Xa)) 4 rfl (λ_ s=>s.l.l.l.l.l.l.l.r)) (XJ (X3 (Xe 8) (Xc (r:=Xa) 8 rfl (λ_ s=>s.l.l.l.r))) (Xe 7)))) (Xe 1))) (Xc (r:=Xa) 7 rfl (λ_ s=>s.l.r)) λa98 C99=>(Xx (J:=_) ((some v53),(some v55),v78,x51.2.2.2.1,x51.2.2.2.2.1,C99,C84) (a77,a98,(g50.2.2++[a83])) rfl rfl (λ_ s=>(SC.i (SC.i (SC.i s.l.l.l.l.l.l.l.l s.l.l.r) s.r) s.l.r)))))))) λg100 x101=>(Yt (J:=({oo:=λx107=>[x107.2.2,x101.2.2.2.2.2.1,x101.2.2.2.2.2.2],ss:=λx107=>[some v_0,some v_1,some v_2,some v2,some v17,some x101.2.2.2.2.1,some x101.2.2.2.1,some x101.2.2.1,x101.1,x101.2.1,some x107.1,x107.2.1],sc:=λg108 x107=>(SC.addO (SC.addO (SC.addO (SC.add (SC.add (SC.add (SC.add (SC.add (SC.add SC.nil K (rL Xa) v_0 a_0) K Xa v_1 a_1) K Xa v_2 a_2) K (rV Xa) v2 a1) K (rV Xa) v17 a16) K Xa x101.2.2.1 g100.1) K (oD Xa) x101.2.2.2.1 g100.2.1 x101.2.2.2.2.2.1) K (oL (oF Xa)) x101.2.2.2.2.1 g100.2.2 x101.2.2.2.2.2.2) K (oL (oL (oF Xa))) x107.1 g108 x107.2.2)}:Jn ((List (List Int))) (V×Option V×List XA))) (YW (Fd:=FNd ({oo:=λx107=>[x107.2.2,x101.2.2.2.2.2.1,x101.2.2.2.2.2.2],ss:=λx107=>[some v_0,some v_1,some v_2,some v2,some v17,some x101.2.2.2.2.1,some x101.2.2.2.1,some x101.2.2.1,x101.1,x101.2.1,some x107.1,x107.2.1],sc:=λg108 x107=>(SC.addO (SC.addO (SC.addO (SC.add (SC.add (SC.add (SC.add (SC.add (SC.add SC.nil K (rL Xa) v_0 a_0) K Xa v_1 a_1) K Xa v_2 a_2) K (rV Xa) v2 a1) K (rV Xa) v17 a16) K Xa x101.2.2.1 g100.1) K (oD Xa) x101.2.2.2.1 g100.2.1 x101.2.2.2.2.2.1) K (oL (oF Xa)) x101.2.2.2.2.1 g100.2.2 x101.2.2.2.2.2.2) K (oL (oL (oF Xa))) x107.1 g108 x107.2.2)}:Jn ((List (List Int))) (V×Option V×List XA))) (Xl (K:=K) (VG (Xr (Xc (r:=(rV Xa)) 4 rfl (λ_ s=>s.l.l.l.r)) (Xe 2)) (Xe 2))) (Ya (K:=K) (o:=(oL (oL (oF Xa)))) 10 0 (Gb (Ev.toB (Y9 (XR (o:=(oL (oF Xa))) 5 2 rfl rfl (λ_ s=>s.r)) (Xc (r:=(rV Xa)) 4 rfl (λ_ s=>s.l.l.l.r)))) (XR (o:=(oD Xa)) 6 1 rfl rfl (λ_ s=>s.l.r)) (Xc (r:=(rV Xa)) 4 rfl (λ_ s=>s.l.l.l.r)) (XJ (Xe 2) (Xr (Xc (r:=(rV Xa)) 4 rfl (λ_ s=>s.l.l.l.r)) (Xe 4)))) (Nat.le_of_ble_eq_true rfl) λa109 v110 C111=>(Xx (J:=_) (v110,(none),C111) (a109) rfl rfl (λ_ s=>s))) (XH (K:=K) (r:=Xa) 11 (EvB.sh (EE (Xr (Xc (r:=(rV Xa)) 4 rfl (λ_ s=>s.l.l.l.r)) (Xe 1)) (E6 (XQ (XR (o:=(oL (oF Xa))) 5 2 rfl rfl (λ_ s=>s.r))) (Xe 1)))) λa124 v125=>(Ya (K:=K) (o:=(oL (oL (oF Xa)))) 10 0 (ZZ (XR (o:=(oL (oF Xa))) 5 2 rfl rfl (λ_ s=>s.l.r)) (Xc (r:=(rV Xa)) 4 rfl (λ_ s=>s.l.l.l.l.r)) (Xc (r:=Xa) 11 rfl (λ_ s=>s.r))) (Nat.le_of_ble_eq_true rfl) λa133 v134 C135=>(Xx (J:=_) (v134,(some v125),C135) (a133) rfl rfl (λ_ s=>(SC.i s.l.l s.r)))))) λg141 x140=>(XD (Zy (YN (o:=(oL (oL (oF Xa)))) 10 0 rfl rfl (λ_ s=>s.r)) λ_=>(Eb (K:=K) (o1:=(oL (oF Xa))) 3 rfl (λ_ s=>s.l.r) (Qv (λ_=>tg1 0) (X5 (Xz (r:=(rV Xa)) 5 rfl (λ_ s=>s.r))) (λC142 a143 v144=>(EvS.ev (YJ (Xz (r:=Xa) 0 rfl (λ_ s=>s.r)) (EvB.sh (Up (XR (o:=(oD Xa)) 1 3 rfl rfl (λ_ s=>s.l.l.l.l.r)) (Xc (r:=Xa) 0 rfl (λ_ s=>s.r))))))))))))))))))
theorem Ei:FnScope ["_law_drawing"] ["_law_drawing"] (Xk Gf):=⟨rfl,rfl,rfl,by decide+kernel,rfl,by decide+kernel,by decide+kernel⟩
theorem Ea (D:Def K mg "_law_copy" Gf ["_law_drawing"])(Y:Ecs XM K mg)(N1:XI K mg "NotADrawing" "fault")(Z:Blt mg):Fn P w K mg base 1 "_law_copy" ["_law_drawing"] (sp1 (rP2 (rV (rV Xa)) (rV (rP2 Xa Xa))) (oT2 (oL (oL (oF Xa))) (oL (oF (rP2 Xa Xa)))) YV K):=by
 refine Zq D Ei (λvs H Q E h=>?_) (λf cdv A outer s H vs Q E hr h=>?_)
 ·obtain⟨v_0,a_0,b,rfl,_⟩:=h;rfl
 obtain⟨v_0,a_0,b,rfl,h_0,hm,q⟩:=h
 have hu:=hu8 hr
 have hu1:=Ze hr
 refine⟨_,(Xb (XC (X7 (Xd (JI (sc:=(Xk Gf)) (N0:=["_law_drawing"]) (tns:=["_law_walk"]) (caps:=[]) rfl (Yo (K:=K) rfl (Xu (XY K rfl) (pv 0) Xg (λ_ _=>rfl))) (QH (by decide)) (λcl C s H ex E=>⟨Xy (i:=0) (show List.Nodup (["_law_walk"]:List Str) by decide+kernel) rfl (Or.inl rfl),QF,(Zt (YI K rfl) rfl Z.b_list PyProof.Rows.boot_list (Xd (pv 0) Xh))⟩)) (Xd (Zt (YI K rfl) rfl Z.b_list PyProof.Rows.boot_list (Xd (Xu (XY K rfl) (pv 0) Xg (λ_ _=>rfl)) Xh)) Xh))))
  Xf),?_⟩
 refine Zj (S:=(SC.add SC.nil K (rP2 (rV (rV Xa)) (rV (rP2 Xa Xa))) v_0 a_0)) (σ:=[some v_0]) 0 ?_ (SC.i SC.t h_0) hm q rfl
 unfold YV
 exact(XD (Zy (Qv (λ_=>tg1 0) (X5 (Uu (Xz (r:=(rP2 (rV (rV Xa)) (rV (rP2 Xa Xa)))) 0 rfl (λ_ s=>s.r)))) (λC2 a3 v4=>(Q7 (EvS.ls (Xz (r:=(rV Xa)) 0 rfl (λ_ s=>s.r)))))) λ_=>(Q7 (EvB.ls (Vc (Xc (r:=(rP2 (rV (rV Xa)) (rV (rP2 Xa Xa)))) 0 rfl (λ_ s=>s.r)))))))
theorem Ku:FnScope ["_law_one"] ["_law_one"] (Xk Jm):=⟨rfl,rfl,rfl,by decide+kernel,rfl,by decide+kernel,by decide+kernel⟩
theorem KJ (D:Def K mg "_law_is_whole" Jm ["_law_one"])(Y:Ecs XM K mg)(N1:XI K mg "NotADrawing" "fault")(Z:Blt mg):Fn P w K mg base 1 "_law_is_whole" ["_law_one"] (sp1 Xa (oF Xt) Y5 K):=by
 refine Zq D Ku (λvs H Q E h=>?_) (λf cdv A outer s H vs Q E hr h=>?_)
 ·obtain⟨v_0,a_0,b,rfl,_⟩:=h;rfl
 obtain⟨v_0,a_0,b,rfl,h_0,hm,q⟩:=h
 have hu:=hu8 hr
 have hu1:=Ze hr
 refine⟨_,(Xb (XC (K6 (Xo Ys rfl Z.b_isinstance PyProof.Rows.boot_isinstance (Xd (pv 0) (Xd (ZF (v:=V.ty "int") rfl Z.b_int PyProof.Rows.boot_int rfl) Xh))) (VB (HL (Xo Ys rfl Z.b_isinstance PyProof.Rows.boot_isinstance (Xd (pv 0) (Xd (ZF (v:=V.ty "bool") rfl Z.b_bool PyProof.Rows.boot_bool rfl) Xh)))))))
  Xf),?_⟩
 refine Zj (S:=(SC.add SC.nil K Xa v_0 a_0)) (σ:=[some v_0]) 0 ?_ (SC.i SC.t h_0) hm q rfl
 unfold Y5
 exact(XD (EvS.ev (EvB.sh (JH (YZ "int" true (ZB K "int") (Xc (r:=Xa) 0 rfl (λ_ s=>s.r))) (CV (YZ "bool" false (UO K) (Xc (r:=Xa) 0 rfl (λ_ s=>s.r))))))))
theorem Zp:FnScope ["_law_found","_law_walk","_law_one","_law_entry"] ["_law_found"] (Xk Z9):=⟨rfl,rfl,rfl,by decide+kernel,rfl,by decide+kernel,by decide+kernel⟩
theorem Uy (D:Def K mg "_law_is_drawing" Z9 ["_law_found"])(g_is_whole:Fn P w K mg base 1 "_law_is_whole" ["_law_one"] (sp1 Xa (oF Xt) Y5 K))(Y:Ecs XM K mg)(N1:XI K mg "NotADrawing" "fault")(Z:Blt mg):Fn P w K mg base 2 "_law_is_drawing" ["_law_found"] (sp1 (rP2 (rV (rV Xa)) (rV (rP2 Xa Xa))) (oF Xt) Y2 K):=by
 refine Zq D Zp (λvs H Q E h=>?_) (λf cdv A outer s H vs Q E hr h=>?_)
 ·obtain⟨v_0,a_0,b,rfl,_⟩:=h;rfl
 obtain⟨v_0,a_0,b,rfl,h_0,hm,q⟩:=h
 have hu:=hu8 hr
 have hu1:=Ze hr
 refine⟨_,(Xb (XW (PW.pt (ZP (Zi (YR (Xo Ys rfl Z.b_isinstance PyProof.Rows.boot_isinstance (Xd (pv 0) (Xd (ZF (v:=V.ty "tuple") rfl Z.b_tuple PyProof.Rows.boot_tuple rfl) Xh))))) (Zv (Xp Cj (Xo (Xj K rfl) rfl Z.b_len PySem.boot_len (Xd (pv 0) Xh)) Xg (XE _)))))
   (Xb (XC Zs)
   Xf)
   Xf)
  (Xb (XW (PW.pt (ZP (Zi (YR (Xo Ys rfl Z.b_isinstance PyProof.Rows.boot_isinstance (Xd (Xu (XY K rfl) (pv 0) Xg (λ_ _=>rfl)) (Xd (ZF (v:=V.ty "list") rfl Z.b_list PyProof.Rows.boot_list rfl) Xh))))) (Zv (Zi (YR (Xo Ys rfl Z.b_isinstance PyProof.Rows.boot_isinstance (Xd (Xu (XY K rfl) (pv 0) Xg (λ_ _=>rfl)) (Xd (ZF (v:=V.ty "list") rfl Z.b_list PyProof.Rows.boot_list rfl) Xh))))))))
   (Xb (XC Zs)
   Xf)
   Xf)
  (Xb (Yv PassesOwn.never rfl (Yo (K:=K) rfl (Xu (XY K rfl) (pv 0) Xg (λ_ _=>rfl))) (Xy (i:=1) Zp.nd rfl (Or.inl rfl))
   (Xb (XW (Zi (YR (Xo Ys rfl Z.b_isinstance PyProof.Rows.boot_isinstance (Xd (pv 1) (Xd (ZF (v:=V.ty "list") rfl Z.b_list PyProof.Rows.boot_list rfl) Xh)))))
    (Xb (XC Zs)
    Xf)
    Xf)
   (Xb (Yv PassesOwn.never rfl (Yo (K:=K) rfl (pv 1)) (Xy (i:=2) Zp.nd rfl (Or.inl rfl))
    (Xb (XW (Zi (YR (Yj g_is_whole hr (by decide) (Xd (pv 2) Xh))))
     (Xb (XC Zs)
     Xf)
     Xf)
    Xf))
   Xf)))
  (Xb (Yv PassesOwn.never rfl (Yo (K:=K) rfl (Xu (XY K rfl) (pv 0) Xg (λ_ _=>rfl))) (Xy (i:=3) Zp.nd rfl (Or.inl rfl))
   (Xb (XW (PW.pt (ZP (Zi (YR (Xo Ys rfl Z.b_isinstance PyProof.Rows.boot_isinstance (Xd (pv 3) (Xd (ZF (v:=V.ty "tuple") rfl Z.b_tuple PyProof.Rows.boot_tuple rfl) Xh))))) (Zv (Xp Cj (Xo (Xj K rfl) rfl Z.b_len PySem.boot_len (Xd (pv 3) Xh)) Xg (XE _)))))
    (Xb (XC Zs)
    Xf)
    Xf)
   (Xb (XW (PW.pt (ZP (Zi (YR (Yj g_is_whole hr (by decide) (Xd (Xu (XY K rfl) (pv 3) Xg (λ_ _=>rfl)) Xh)))) (Zv (Zi (YR (Yj g_is_whole hr (by decide) (Xd (Xu (XY K rfl) (pv 3) Xg (λ_ _=>rfl)) Xh)))))))
    (Xb (XC Zs)
    Xf)
    Xf)
   Xf)))
  (Xb (XC Zs)
  Xf))))),?_⟩
 refine Zj (S:=(SC.add SC.nil K (rP2 (rV (rV Xa)) (rV (rP2 Xa Xa))) v_0 a_0)) (σ:=[some v_0,none,none,none]) 0 ?_ (SC.i SC.t h_0) hm q rfl
 unfold Y2
 exact(YG (Y4 (YD (Zo (K:=K) (YZ "tuple" true (ZB K "tuple") (Xc (r:=(rP2 (rV (rV Xa)) (rV (rP2 Xa Xa)))) 0 rfl (λ_ s=>s.r))))) (Xl (K:=K) (Gy (Fe (Xc (r:=(rP2 (rV (rV Xa)) (rV (rP2 Xa Xa)))) 0 rfl (λ_ s=>s.r))) (Xe 2)))) (XD (EvS.ev (EvB.sh (YE false)))) (YG (Y4 (YD (Zo (K:=K) (YZ "list" true (ZB K "list") (ZU (Xc (r:=(rP2 (rV (rV Xa)) (rV (rP2 Xa Xa)))) 0 rfl (λ_ s=>s.r)))))) (YD (Zo (K:=K) (YZ "list" true (ZB K "list") (Vc (Xc (r:=(rP2 (rV (rV Xa)) (rV (rP2 Xa Xa)))) 0 rfl (λ_ s=>s.r))))))) (XD (EvS.ev (EvB.sh (YE false)))) (Qu (K:=K) (J:=({oo:=λx15=>[],ss:=λx15=>[some v_0,x15.1,x15.2,none],sc:=λg16 x15=>(SC.add SC.nil K (rP2 (rV (rV Xa)) (rV (rP2 Xa Xa))) v_0 a_0)}:Jn (Unit) (Option V×Option V))) (λ_=>tg1 1) ((none),(none)) () (X5 (Uu (Xz (r:=(rP2 (rV (rV Xa)) (rV (rP2 Xa Xa)))) 0 rfl (λ_ s=>s.r)))) rfl rfl (λ_ s=>(SC.i SC.t s.r)) (λg17 x18 a19 v20=>(ZD (YD (Zo (K:=K) (YZ "list" true (ZB K "list") (Xc (r:=(rV Xa)) 1 rfl (λ_ s=>s.r))))) (XD (EvS.ev (EvB.sh (YE false)))) (V9 (K:=K) (J:=({oo:=λx24=>[],ss:=λx24=>[some v_0,some v20,x24,none],sc:=λg25 x24=>(SC.add (SC.add SC.nil K (rP2 (rV (rV Xa)) (rV (rP2 Xa Xa))) v_0 a_0) K (rV Xa) v20 a19)}:Jn (Unit) (Option V))) (λ_=>tg1 2) ((x18.2)) () (X5 (Xz (r:=(rV Xa)) 1 rfl (λ_ s=>s.r))) rfl rfl (λ_ s=>s) (λg26 x27 a28 v29=>(ZD (YD (Zo (K:=K) (Ev.toB (XS (Xc (r:=Xa) 2 rfl (λ_ s=>s.r)))))) (XD (EvS.ev (EvB.sh (YE false)))) (Qq (Xx (J:=_) ((some v29)) () rfl rfl (λ_ s=>s.l))))) λg36 x37=>(Qq (Xx (J:=_) ((some v20),(x37)) () rfl rfl (λ_ s=>(SC.i SC.t s.l.r))))))) λg41 x42=>(Qu (K:=K) (J:=({oo:=λx44=>[],ss:=λx44=>[some v_0,x42.1,x42.2,x44],sc:=λg45 x44=>(SC.add SC.nil K (rP2 (rV (rV Xa)) (rV (rP2 Xa Xa))) v_0 a_0)}:Jn (Unit) (Option V))) (λ_=>tg1 3) ((none)) () (X5 (Fb (Xz (r:=(rP2 (rV (rV Xa)) (rV (rP2 Xa Xa)))) 0 rfl (λ_ s=>s.r)))) rfl rfl (λ_ s=>(SC.i SC.t s.r)) (λg46 x47 a48 v49=>(ZD (Y4 (YD (Zo (K:=K) (YZ "tuple" true (ZB K "tuple") (Xc (r:=(rP2 Xa Xa)) 3 rfl (λ_ s=>s.r))))) (Xl (K:=K) (Gy (V4 (FW (Xc (r:=(rP2 Xa Xa)) 3 rfl (λ_ s=>s.r)))) (Xe 2)))) (XD (EvS.ev (EvB.sh (YE false)))) (ZD (Y4 (YD (Zo (K:=K) (Ev.toB (XS (ZU (Xc (r:=(rP2 Xa Xa)) 3 rfl (λ_ s=>s.r))))))) (YD (Zo (K:=K) (Ev.toB (XS (Vc (Xc (r:=(rP2 Xa Xa)) 3 rfl (λ_ s=>s.r)))))))) (XD (EvS.ev (EvB.sh (YE false)))) (Qq (Xx (J:=_) ((some v49)) () rfl rfl (λ_ s=>(SC.i SC.t s.l.r))))))) λg69 x70=>(XD (EvS.ev (EvB.sh (YE true))))))))
theorem Zr:FnScope ["_law_some","_law_count","_law_rings","_law_extra","_law_walks","_law_signs","_law_k"] ["_law_some"] (Xk V1):=⟨rfl,rfl,rfl,by decide+kernel,rfl,by decide+kernel,by decide+kernel⟩
theorem Bl (D:Def K mg "_law_large" V1 ["_law_some"])(Y:Ecs XM K mg)(N1:XI K mg "NotADrawing" "fault")(Z:Blt mg):Fn P w K mg base 1 "_law_large" ["_law_some"] (sp1 (rV Xa) (oT2 (oL (oL (oF Xa))) (oL (oF (rP2 Xa Xa)))) Q9 K):=by
 refine Zq D Zr (λvs H Q E h=>?_) (λf cdv A outer s H vs Q E hr h=>?_)
 ·obtain⟨v_0,a_0,b,rfl,_⟩:=h;rfl
 obtain⟨v_0,a_0,b,rfl,h_0,hm,q⟩:=h
 have hu:=hu8 hr
 have hu1:=Ze hr
 refine⟨_,(Xb (Xs (i:=1) Zr.nd rfl (Or.inl rfl) (Xq XZ Xg (Xu (Xi K rfl) (pv 0) Xg (λ_ _=>rfl))))
  (Xb (Xs (i:=2) Zr.nd rfl (Or.inl rfl) (Xq XZ Xg (Xq Yl (Xu (Xi K rfl) (pv 0) Xg (λ_ _=>rfl)) Xg)))
  (Xb (Xs (i:=3) Zr.nd rfl (Or.inl rfl) Xg)
  (Xb (XW (Xp ZH (Xu (Xi K rfl) (pv 0) Xg (λ_ _=>rfl)) Xg (XE _))
   (Xb (Xs (i:=1) Zr.nd rfl (Or.inl rfl) (Xu (Xi K rfl) (pv 0) Xg (λ_ _=>rfl)))
   Xf)
   Xf)
  (Xb (XW (Xp GW (Xu (Xi K rfl) (pv 0) Xg (λ_ _=>rfl)) Xg (XE _))
   (Xb (Xs (i:=3) Zr.nd rfl (Or.inl rfl) (Xq QS (Xq XZ Xg (Xq Yl (Xu (Xi K rfl) (pv 0) Xg (λ_ _=>rfl)) Xg)) (pv 2)))
   Xf)
   Xf)
  (Xb (Um 4 (Xk V1) ["_law_some","_law_count","_law_rings","_law_extra","_law_walks","_law_signs","_law_k"] ["_law_k"] [] rfl Zr.nd rfl rfl (Yb rfl Z.b_range (Xd (Xq XZ (pv 2) (pv 3)) Xh)) (QH (by decide)) (λcl C s H ex E=>⟨Xy (i:=0) (show List.Nodup (["_law_k"]:List Str) by decide+kernel) rfl (Or.inl rfl),QF,(Yn Xh)⟩))
  (Xb (Xs (i:=5) Zr.nd rfl (Or.inl rfl) (Yn Xh))
  (Xb (Yv PassesOwn.never rfl (Yb rfl Z.b_range (Xd (pv 1) Xh)) (Xy (i:=6) Zr.nd rfl (Or.inl rfl))
   (Xb (XN (Y7 PySem.F.plainAttrs_list PySem.F.slot_list_append PySem.F.type_list_append X6 (Xu (Xi K rfl) (pv 4) (Xq Yl (pv 6) (pv 2)) (λ_ _=>rfl)) (Xd (Xq XZ (pv 6) Xg) Xh)))
   (Xb (XN (Y7 PySem.F.plainAttrs_list PySem.F.slot_list_append PySem.F.type_list_append X6 (Xu (Xi K rfl) (pv 4) (Xq Yl (Xq YC (pv 6) (pv 6)) (pv 2)) (λ_ _=>rfl)) (Xd (Xq QS (Vr Qs (pv 6)) Xg) Xh)))
   (Xb (XN (Y7 PySem.F.plainAttrs_list PySem.F.slot_list_append PySem.F.type_list_append X6 (pv 5) (Xd (X7 (Xd (Xq XZ (pv 6) Xg) (Xd (Xq QS Xg (Xq YC Xg (Xq Yl (pv 6) Xg))) Xh))) Xh)))
   Xf))))
  (Xb (XC (X7 (Xd (pv 4) (Xd (pv 5) Xh))))
  Xf))))))))),?_⟩
 refine Zj (S:=(SC.add SC.nil K (rV Xa) v_0 a_0)) (σ:=[some v_0,none,none,none,none,none,none]) 2 ?_ (SC.i SC.t h_0) hm q rfl
 unfold Q9
 exact(XH (K:=K) (r:=Xa) 1 (EvB.sh (XJ (Xe 38) (Xr (Xc (r:=(rV Xa)) 0 rfl (λ_ s=>s.r)) (Xe 0)))) λa1 v2=>(XH (K:=K) (r:=Xa) 2 (EvB.sh (XJ (Xe 1) (XV (Xr (Xc (r:=(rV Xa)) 0 rfl (λ_ s=>s.l.r)) (Xe 1)) (Xe 4)))) λa7 v8=>(XH (K:=K) (r:=Xa) 3 (EvB.sh (Xe 0)) λa15 v16=>(Yt (J:=({oo:=λx22=>[[],[]],ss:=λx22=>[some v_0,some x22,some v8,some v16,none,none,none],sc:=λg23 x22=>(SC.add (SC.add (SC.add (SC.add SC.nil K (rV Xa) v_0 a_0) K Xa v8 a7) K Xa v16 a15) K Xa x22 g23)}:Jn (Int) (V))) (YW (Fd:=FNd ({oo:=λx22=>[[],[]],ss:=λx22=>[some v_0,some x22,some v8,some v16,none,none,none],sc:=λg23 x22=>(SC.add (SC.add (SC.add (SC.add SC.nil K (rV Xa) v_0 a_0) K Xa v8 a7) K Xa v16 a15) K Xa x22 g23)}:Jn (Int) (V))) (Xl (K:=K) (YS (Xr (Xc (r:=(rV Xa)) 0 rfl (λ_ s=>s.l.l.l.r)) (Xe 2)) (Xe 0))) (XH (K:=K) (r:=Xa) 1 (EvB.sh (Xr (Xc (r:=(rV Xa)) 0 rfl (λ_ s=>s.l.l.l.r)) (Xe 0))) λa24 v25=>(Xx (J:=_) (v25) (a24) rfl rfl (λ_ s=>(SC.i (SC.i (SC.i (SC.i SC.t s.l.l.l.l.r) s.l.l.r) s.l.r) s.r)))) (Xx (J:=_) (v2) (a1) rfl rfl (λ_ s=>(SC.i (SC.i (SC.i (SC.i SC.t s.l.l.l.r) s.l.r) s.r) s.l.l.r)))) λg29 x28=>(Yt (J:=({oo:=λx35=>[[],[]],ss:=λx35=>[some v_0,some x28,some v8,some x35,none,none,none],sc:=λg36 x35=>(SC.add (SC.add (SC.add (SC.add SC.nil K (rV Xa) v_0 a_0) K Xa v8 a7) K Xa x28 g29) K Xa x35 g36)}:Jn (Int) (V))) (YW (Fd:=FNd ({oo:=λx35=>[[],[]],ss:=λx35=>[some v_0,some x28,some v8,some x35,none,none,none],sc:=λg36 x35=>(SC.add (SC.add (SC.add (SC.add SC.nil K (rV Xa) v_0 a_0) K Xa v8 a7) K Xa x28 g29) K Xa x35 g36)}:Jn (Int) (V))) (Xl (K:=K) (VG (Xr (Xc (r:=(rV Xa)) 0 rfl (λ_ s=>s.l.l.l.r)) (Xe 2)) (Xe 2))) (XH (K:=K) (r:=Xa) 3 (EvB.sh (ZY (XJ (Xe 11) (XV (Xr (Xc (r:=(rV Xa)) 0 rfl (λ_ s=>s.l.l.l.r)) (Xe 1)) (Xe 4))) (Xc (r:=Xa) 2 rfl (λ_ s=>s.l.l.r)))) λa37 v38=>(Xx (J:=_) (v38) (a37) rfl rfl (λ_ s=>(SC.i (SC.i s.l.l.l s.l.r) s.r)))) (Xx (J:=_) (v16) (a15) rfl rfl (λ_ s=>(SC.i (SC.i s.l.l s.r) s.l.r)))) λg48 x47=>(Ya (K:=K) (o:=(oL (oL (oF Xa)))) 4 0 (Qv (λ_=>tg1 0) (XO (XJ (Xc (r:=Xa) 2 rfl (λ_ s=>s.l.l.r)) (Xc (r:=Xa) 3 rfl (λ_ s=>s.r)))) (λC55 a56 v57=>(Jg (o:=(oF Xa))))) (Nat.le_of_ble_eq_true rfl) λa49 v50 C51=>(Ya (K:=K) (o:=(oL (oF (rP2 Xa Xa)))) 5 1 (Jg (o:=(oF (rP2 Xa Xa)))) (Nat.le_of_ble_eq_true rfl) λa59 v60 C61=>(Zu (K:=K) (J:=({oo:=λx63=>[x63.2.2.2.1,x63.2.2.2.2],ss:=λx63=>[some v_0,some x28,some v8,some x47,some x63.2.1,some x63.2.2.1,x63.1],sc:=λg64 x63=>(SC.addO (SC.addO (SC.add (SC.add (SC.add (SC.add SC.nil K (rV Xa) v_0 a_0) K Xa v8 a7) K Xa x28 g29) K Xa x47 g48) K (oL (oL (oF Xa))) x63.2.1 g64.1 x63.2.2.2.1) K (oL (oF (rP2 Xa Xa))) x63.2.2.1 g64.2 x63.2.2.2.2)}:Jn ((List (List Int))×(List (Int×Int))) (Option V×V×V×List XA×List XA))) (λ_=>tg1 6) ((none),v50,v60,C51,C61) (a49,a59) (XO (Xc (r:=Xa) 1 rfl (λ_ s=>s.l.l.l.r))) rfl rfl (λ_ s=>s) (λg65 x66 a67 v68=>(Uk (K:=K) (r:=Xa) 4 0 rfl rfl (λ_ s=>s.l.l.r) (EvB.sh (XJ (Xc (r:=Xa) 6 rfl (λ_ s=>s.r)) (Xe 1))) (XV (Xc (r:=Xa) 6 rfl (λ_ s=>s.r)) (Xc (r:=Xa) 2 rfl (λ_ s=>s.l.l.l.l.l.r))) λa76 C77=>(Uk (K:=K) (r:=Xa) 4 0 rfl rfl (λ_ s=>s.r) (EvB.sh (ZY (ZK (Xc (r:=Xa) 6 rfl (λ_ s=>s.l.r))) (Xe 1))) (XV (X3 (Xc (r:=Xa) 6 rfl (λ_ s=>s.l.r)) (Xc (r:=Xa) 6 rfl (λ_ s=>s.l.r))) (Xc (r:=Xa) 2 rfl (λ_ s=>s.l.l.l.l.l.l.r))) λa88 C89=>(Jp (K:=K) (o:=(oF (rP2 Xa Xa))) (f:=λa102=>(Rs.ok (a88,a102))) 5 1 rfl rfl rfl (λ_ s=>s.l.l.l.r) (EvS.ev (YJ (EvB.sh (XJ (Xc (r:=Xa) 6 rfl (λ_ s=>s.l.l.r)) (Xe 1))) (EvB.sh (ZY (Xe 1) (X3 (Xe 2) (XV (Xc (r:=Xa) 6 rfl (λ_ s=>s.l.l.r)) (Xe 2))))))) λa100 C101=>(Xx (J:=_) ((some v68),x66.2.1,x66.2.2.1,C89,C101) (a88,(g65.2++[a100])) rfl rfl (λ_ s=>(SC.i (SC.i s.l.l.l.l.l.l s.l.r) s.r))))))) λg103 x104=>(XD (Zy (YN (o:=(oL (oL (oF Xa)))) 4 0 rfl rfl (λ_ s=>s.l.r)) λ_=>(YN (o:=(oL (oF (rP2 Xa Xa)))) 5 2 rfl rfl (λ_ s=>s.r))))))))))))
theorem Zl:FnScope ["_law_walks","_law_one","_law_some","_law_every","_law_walk"] ["_law_walks","_law_one","_law_some"] (Xk Zw):=⟨rfl,rfl,rfl,by decide+kernel,rfl,by decide+kernel,by decide+kernel⟩
theorem Jx (D:Def K mg "_law_other_passage" Zw ["_law_walks","_law_one","_law_some"])(Y:Ecs XM K mg)(N1:XI K mg "NotADrawing" "fault")(Z:Blt mg):Fn P w K mg base 1 "_law_other_passage" ["_law_walks","_law_one","_law_some"] (sp3 (rV (rV Xa)) Xa (rV Xa) (oF Xa) Ym K):=by
 refine Zq D Zl (λvs H Q E h=>?_) (λf cdv A outer s H vs Q E hr h=>?_)
 ·obtain⟨v_0,v_1,v_2,a_0,a_1,a_2,b,rfl,_⟩:=h;rfl
 obtain⟨v_0,v_1,v_2,a_0,a_1,a_2,b,rfl,h_0,h_1,h_2,hm,q⟩:=h
 have hu:=hu8 hr
 have hu1:=Ze hr
 refine⟨_,(Xb (Xs (i:=3) Zl.nd rfl (Or.inl rfl) (Yn Xh))
  (Xb (Yv PassesOwn.never rfl (Yo (K:=K) rfl (pv 0)) (Xy (i:=4) Zl.nd rfl (Or.inl rfl))
   (Xb (XN (Y7 PySem.F.plainAttrs_list PySem.F.slot_list_extend PySem.F.type_list_extend Z4 (pv 3) (Xd (pv 4) Xh)))
   Xf))
  (Xb (XW (Xp ZH (Xu (Xi K rfl) (pv 2) Xg (λ_ _=>rfl)) Xg (XE _))
   (Xb (XC Xg)
   Xf)
   Xf)
  (Xb (XW (Xp ZH (Xu (Xi K rfl) (pv 2) Xg (λ_ _=>rfl)) Xg (XE _))
   (Xb (XC (Vr Qs (pv 1)))
   Xf)
   Xf)
  (Xb (XW (Xp ZH (Xu (Xi K rfl) (pv 2) Xg (λ_ _=>rfl)) Xg (XE _))
   (Xb (XC (Xu (Xi K rfl) (pv 3) (Xq Yl (Xu (Xi K rfl) (pv 2) Xg (λ_ _=>rfl)) (Xo (Xj K rfl) rfl Z.b_len PySem.boot_len (Xd (pv 3) Xh))) (λ_ _=>rfl)))
   Xf)
   Xf)
  (Xb (XC (Xq XZ (pv 1) (Xq YC (Xq XZ (Xq VS Xg Xg) (Xu (Xi K rfl) (pv 2) Xg (λ_ _=>rfl))) (Xq QS Xg (Xq YC Xg (Xq Yl (Xu (Xi K rfl) (pv 2) Xg (λ_ _=>rfl)) Xg))))))
  Xf)))))),?_⟩
 refine Zj (S:=(SC.add (SC.add (SC.add SC.nil K (rV (rV Xa)) v_0 a_0) K Xa v_1 a_1) K (rV Xa) v_2 a_2)) (σ:=[some v_0,some v_1,some v_2,none,none]) 2 ?_ (SC.i (SC.i (SC.i SC.t h_0) h_1) h_2) hm q rfl
 unfold Ym
 exact(Ya (K:=K) (o:=(oL (oF Xa))) 3 0 (Jg (o:=(oF Xa))) (Nat.le_of_ble_eq_true rfl) λa1 v2 C3=>(Zu (K:=K) (J:=({oo:=λx4=>[x4.2.2,[]],ss:=λx4=>[some v_0,some v_1,some v_2,some x4.2.1,x4.1],sc:=λg5 x4=>(SC.addO (SC.add (SC.add (SC.add SC.nil K (rV (rV Xa)) v_0 a_0) K Xa v_1 a_1) K (rV Xa) v_2 a_2) K (oL (oF Xa)) x4.2.1 g5 x4.2.2)}:Jn ((List Int)) (Option V×V×List XA))) (λ_=>tg1 4) ((none),v2,C3) (a1) (X5 (Xz (r:=(rV (rV Xa))) 0 rfl (λ_ s=>s.l.l.l.r))) rfl rfl (λ_ s=>s) (λg6 x7 a8 v9=>(V3 (K:=K) (r:=Xa) (f:=λa12=>(Rs.ok (a12))) 3 0 rfl rfl (λ_ s=>s.l.r) (Xc (r:=(rV Xa)) 4 rfl (λ_ s=>s.r)) λa10 C11=>(Xx (J:=_) ((some v9),x7.2.1,C11) ((g6++a10)) rfl rfl (λ_ s=>(SC.i s.l.l.l s.r))))) λg13 x14=>(YG (Xl (K:=K) (YS (Xr (Xc (r:=(rV Xa)) 2 rfl (λ_ s=>s.l.r)) (Xe 0)) (Xe 0))) (XD (EvS.ev (EvB.sh (Xe 0)))) (YG (Xl (K:=K) (YS (Xr (Xc (r:=(rV Xa)) 2 rfl (λ_ s=>s.l.r)) (Xe 0)) (Xe 1))) (XD (EvS.ev (EvB.sh (ZK (Xc (r:=Xa) 1 rfl (λ_ s=>s.l.l.r)))))) (YG (Xl (K:=K) (YS (Xr (Xc (r:=(rV Xa)) 2 rfl (λ_ s=>s.l.r)) (Xe 0)) (Xe 2))) (XD (EvS.ev (EvB.sh (Xr (XR (o:=(oL (oF Xa))) 3 0 rfl rfl (λ_ s=>s.r)) (XV (Xr (Xc (r:=(rV Xa)) 2 rfl (λ_ s=>s.l.r)) (Xe 4)) (XQ (XR (o:=(oL (oF Xa))) 3 0 rfl rfl (λ_ s=>s.r)))))))) (XD (EvS.ev (EvB.sh (XJ (Xc (r:=Xa) 1 rfl (λ_ s=>s.l.l.r)) (X3 (XJ (Jl (Xe 10) (Xe 9)) (Xr (Xc (r:=(rV Xa)) 2 rfl (λ_ s=>s.l.r)) (Xe 4))) (ZY (Xe 1) (X3 (Xe 2) (XV (Xr (Xc (r:=(rV Xa)) 2 rfl (λ_ s=>s.l.r)) (Xe 4)) (Xe 2))))))))))))))
theorem Yz:FnScope ["_law_drawing","_law_some","_law_walks","_law_signs","_law_held","_law_walk","_law_at"] ["_law_drawing","_law_some"] (Xk Zn):=⟨rfl,rfl,rfl,by decide+kernel,rfl,by decide+kernel,by decide+kernel⟩
theorem VA (D:Def K mg "_law_spoilt_walk" Zn ["_law_drawing","_law_some"])(g_copy:Fn P w K mg base 1 "_law_copy" ["_law_drawing"] (sp1 (rP2 (rV (rV Xa)) (rV (rP2 Xa Xa))) (oT2 (oL (oL (oF Xa))) (oL (oF (rP2 Xa Xa)))) YV K))(g_other_passage:Fn P w K mg base 1 "_law_other_passage" ["_law_walks","_law_one","_law_some"] (sp3 (rV (rV Xa)) Xa (rV Xa) (oF Xa) Ym K))(Y:Ecs XM K mg)(N1:XI K mg "NotADrawing" "fault")(Z:Blt mg):Fn P w K mg base 2 "_law_spoilt_walk" ["_law_drawing","_law_some"] (sp2 (rP2 (rV (rV Xa)) (rV (rP2 Xa Xa))) (rV Xa) (oT2 (oL (oL (oF Xa))) (oL (oF (rP2 Xa Xa)))) YM K):=by
 refine Zq D Yz (λvs H Q E h=>?_) (λf cdv A outer s H vs Q E hr h=>?_)
 ·obtain⟨v_0,v_1,a_0,a_1,b,rfl,_⟩:=h;rfl
 obtain⟨v_0,v_1,a_0,a_1,b,rfl,h_0,h_1,hm,q⟩:=h
 have hu:=hu8 hr
 have hu1:=Ze hr
 refine⟨_,(Xb (Z8 (Yj g_copy hr (by decide) (Xd (pv 0) Xh)) (Qt rfl (XX (Xy (i:=2) Yz.nd rfl (Or.inr rfl)) (XX (Xy (i:=3) Yz.nd rfl (Or.inl rfl)) ZE))))
  (Xb (Um 4 (Xk Zn) ["_law_drawing","_law_some","_law_walks","_law_signs","_law_held","_law_walk","_law_at"] ["_law_k"] [(2,"_law_walks")] rfl Yz.nd rfl rfl (Yb rfl Z.b_range (Xd (Xo (Xj K rfl) rfl Z.b_len PySem.boot_len (Xd (pv 2) Xh)) Xh)) (QH (by decide)) (λcl C s H ex E=>⟨Xy (i:=0) (show List.Nodup (["_law_k","_law_walks"]:List Str) by decide+kernel) rfl (Or.inl rfl),(Hc (Xp UK (Xo (Xj K rfl) rfl Z.b_len PySem.boot_len (Xd (Xu (Xi K rfl) (pv 1) (pv 0) (λ_ _=>rfl)) Xh)) Xg (XE _))),(pv 0)⟩))
  (Xb (XW (Xp ZH (Xo (Xj K rfl) rfl Z.b_len PySem.boot_len (Xd (pv 4) Xh)) Xg (XE _))
   (Xb (XC (X7 (Xd (Xq K7 (pv 2) (Yn (Xd (Yn (Xd (Xu (Xi K rfl) (pv 1) Xg (λ_ _=>rfl)) Xh)) Xh Z3))) (Xd (pv 3) Xh))))
   Xf)
   Xf)
  (Xb (Xs (i:=5) Yz.nd rfl (Or.inl rfl) (Xu (Xi K rfl) (pv 2) (Xu (Xi K rfl) (pv 4) (Xq Yl (Xu (Xi K rfl) (pv 1) Xg (λ_ _=>rfl)) (Xo (Xj K rfl) rfl Z.b_len PySem.boot_len (Xd (pv 4) Xh))) (λ_ _=>rfl)) (λ_ _=>rfl)))
  (Xb (Xs (i:=6) Yz.nd rfl (Or.inl rfl) (Xq Yl (Xu (Xi K rfl) (pv 1) Xg (λ_ _=>rfl)) (Xo (Xj K rfl) rfl Z.b_len PySem.boot_len (Xd (pv 5) Xh))))
  (Xb (XW (Xp GW (Xu (Xi K rfl) (pv 1) Xg (λ_ _=>rfl)) Xg (XE _))
   (Xb (Z8 (Yj g_other_passage hr (by decide) (Xd (pv 2) (Xd (Xu (Xi K rfl) (pv 5) (pv 6) (λ_ _=>rfl)) (Xd (pv 1) Xh)))) (UQ (pv 5) (pv 6) QQ))
   Xf)
   (Xb (XW (Xp ZH (Xu (Xi K rfl) (pv 1) Xg (λ_ _=>rfl)) Xg (XE _))
    (Xb (XN (Y7 PySem.F.plainAttrs_list PySem.F.slot_list_pop PySem.F.type_list_pop QR (pv 5) (Xd (pv 6) Xh)))
    Xf)
    (Xb (XW (Xp ZH (Xu (Xi K rfl) (pv 1) Xg (λ_ _=>rfl)) Xg (XE _))
     (Xb (XN (Y7 PySem.F.plainAttrs_list PySem.F.slot_list_insert PySem.F.type_list_insert Qa (pv 5) (Xd (pv 6) (Xd (Xu (Xi K rfl) (pv 5) (pv 6) (λ_ _=>rfl)) Xh))))
     Xf)
     (Xb (XN (Y7 PySem.F.plainAttrs_list PySem.F.slot_list_insert PySem.F.type_list_insert Qa (pv 5) (Xd (pv 6) (Xd (Xq XZ (Xq VS Xg Xg) (Xu (Xi K rfl) (pv 1) Xg (λ_ _=>rfl))) Xh))))
     (Xb (XN (Y7 PySem.F.plainAttrs_list PySem.F.slot_list_insert PySem.F.type_list_insert Qa (pv 5) (Xd (Xq Yl (Xu (Xi K rfl) (pv 1) Xg (λ_ _=>rfl)) (Xo (Xj K rfl) rfl Z.b_len PySem.boot_len (Xd (pv 5) Xh))) (Xd (Xq QS (Vr Qs (Xq VS Xg Xg)) (Xu (Xi K rfl) (pv 1) Xg (λ_ _=>rfl))) Xh))))
     Xf)))
    Xf))
   Xf))
  (Xb (XC (X7 (Xd (pv 2) (Xd (pv 3) Xh))))
  Xf))))))),?_⟩
 refine Zj (S:=(SC.add (SC.add SC.nil K (rP2 (rV (rV Xa)) (rV (rP2 Xa Xa))) v_0 a_0) K (rV Xa) v_1 a_1)) (σ:=[some v_0,some v_1,none,none,none,none,none]) 2 ?_ (SC.i (SC.i SC.t h_0) h_1) hm q rfl
 unfold YM
 exact(G8 (K:=K) (o1:=(oL (oL (oF Xa)))) (o2:=(oL (oF (rP2 Xa Xa)))) 2 3 0 1 (XS (Xc (r:=(rP2 (rV (rV Xa)) (rV (rP2 Xa Xa)))) 0 rfl (λ_ s=>s.l.r))) (Nat.le_of_ble_eq_true rfl) (Nat.le_of_ble_eq_true rfl) λa3 v4 v5 C6 C7=>(XH (K:=K) (r:=(rV Xa)) 4 (Ev.sh (Ct (λ_=>tg1 0) (XO (XQ (XR (o:=(oL (oL (oF Xa)))) 2 0 rfl rfl (λ_ s=>s.l.r)))) (λC12 a13 v14=>(Xl (K:=K) (Jq (XQ (Xr (XR (o:=(oL (oL (oF Xa)))) 1 1 rfl rfl (λ_ s=>s.l.l.r)) (Xc (r:=Xa) 0 rfl (λ_ s=>s.r)))) (Xe 0)))) (λC12 a13 v14=>(EvS.ev (Xz (r:=Xa) 0 rfl (λ_ s=>s.r)))))) λa8 v9=>(YG (Xl (K:=K) (YS (XQ (Xc (r:=(rV Xa)) 4 rfl (λ_ s=>s.r))) (Xe 0))) (XD (Zy (EG (YN (o:=(oL (oL (oF Xa)))) 2 0 rfl rfl (λ_ s=>s.l.l.r)) λ_=>(Ew (Da (Z1 (Xm (EvB.sh (Xr (Xc (r:=(rV Xa)) 1 rfl (λ_ s=>s.l.l.l.r)) (Xe 4))) X9)) λ_=>CZ))) λ_=>(YN (o:=(oL (oF (rP2 Xa Xa)))) 3 2 rfl rfl (λ_ s=>s.l.r)))) (CQ (K:=K) (r:=Xa) 2 0 5 rfl rfl (λ_ s=>s.l.l.r) (Xr (Xc (r:=(rV Xa)) 4 rfl (λ_ s=>s.r)) (XV (Xr (Xc (r:=(rV Xa)) 1 rfl (λ_ s=>s.l.l.l.r)) (Xe 2)) (XQ (Xc (r:=(rV Xa)) 4 rfl (λ_ s=>s.r))))) λk44 v45=>(XH (K:=K) (r:=Xa) 6 (EvB.sh (XV (Xr (Xc (r:=(rV Xa)) 1 rfl (λ_ s=>s.l.l.l.l.r)) (Xe 3)) (XQ (Gj (r:=Xa) (v:=v4) 5 0 rfl rfl (λ_ s=>s.l.l.l.r) (λ_ s=>s.r))))) λa47 v48=>(Yt (J:=({oo:=λy=>[y,C7],ss:=λy=>[some v_0,some v_1,some v4,some v5,some v9,some v45,some v48],sc:=λg y=>(SC.addO (SC.addO SC.nil K (oL (oL (oF Xa))) v4 g y) K (oL (oF (rP2 Xa Xa))) v5 a3.2 C7)}:Jn (List (List Int)) (List XA))) (YW (Fd:=FNd ({oo:=λy=>[y,C7],ss:=λy=>[some v_0,some v_1,some v4,some v5,some v9,some v45,some v48],sc:=λg y=>(SC.addO (SC.addO SC.nil K (oL (oL (oF Xa))) v4 g y) K (oL (oF (rP2 Xa Xa))) v5 a3.2 C7)}:Jn (List (List Int)) (List XA))) (Xl (K:=K) (VG (Xr (Xc (r:=(rV Xa)) 1 rfl (λ_ s=>s.l.l.l.l.l.r)) (Xe 0)) (Xe 4))) (Bm (K:=K) (r:=Xa) (f:=λa59=>(Rs.ok a59)) 5 0 rfl rfl (λ_ s=>s.l.l.l.l.r) (λ_ s=>s.l.r) (EvB.sh (Ev.toB (ZZ (XR (o:=(oL (oL (oF Xa)))) 2 0 rfl rfl (λ_ s=>s.l.l.l.l.r)) (Xr (Gj (r:=Xa) (v:=v4) 5 0 rfl rfl (λ_ s=>s.l.l.l.l.r) (λ_ s=>s.l.r)) (Xc (r:=Xa) 6 rfl (λ_ s=>s.r))) (Xc (r:=(rV Xa)) 1 rfl (λ_ s=>s.l.l.l.l.l.r))))) (Xc (r:=Xa) 6 rfl (λ_ s=>s.r)) λa59 C60=>(Xx (J:=_) C60 a59 rfl rfl (λ_ s=>(SC.i (SC.i SC.t s.l.r) s.l.l.l.l.l.r)))) (YW (Fd:=FNd ({oo:=λy=>[y,C7],ss:=λy=>[some v_0,some v_1,some v4,some v5,some v9,some v45,some v48],sc:=λg y=>(SC.addO (SC.addO SC.nil K (oL (oL (oF Xa))) v4 g y) K (oL (oF (rP2 Xa Xa))) v5 a3.2 C7)}:Jn (List (List Int)) (List XA))) (Xl (K:=K) (YS (Xr (Xc (r:=(rV Xa)) 1 rfl (λ_ s=>s.l.l.l.l.l.r)) (Xe 0)) (Xe 4))) (CD (K:=K) (r:=Xa) (f:=λa76=>(Rs.ok a76)) 5 0 rfl rfl (λ_ s=>s.l.l.l.l.r) (λ_ s=>s.l.r) (Xc (r:=Xa) 6 rfl (λ_ s=>s.r)) λa76 C77=>(Xx (J:=_) C77 a76 rfl rfl (λ_ s=>(SC.i (SC.i SC.t s.l.r) s.l.l.l.l.l.r)))) (YW (Fd:=FNd ({oo:=λy=>[y,C7],ss:=λy=>[some v_0,some v_1,some v4,some v5,some v9,some v45,some v48],sc:=λg y=>(SC.addO (SC.addO SC.nil K (oL (oL (oF Xa))) v4 g y) K (oL (oF (rP2 Xa Xa))) v5 a3.2 C7)}:Jn (List (List Int)) (List XA))) (Xl (K:=K) (YS (Xr (Xc (r:=(rV Xa)) 1 rfl (λ_ s=>s.l.l.l.l.l.r)) (Xe 0)) (Xe 5))) (Us (K:=K) (r:=Xa) (f:=λa87=>(Rs.ok a87)) 5 0 rfl rfl (λ_ s=>s.l.l.l.l.r) (λ_ s=>s.l.r) (Xc (r:=Xa) 6 rfl (λ_ s=>s.r)) (EvB.sh (Xr (Gj (r:=Xa) (v:=v4) 5 0 rfl rfl (λ_ s=>s.l.l.l.l.r) (λ_ s=>s.l.r)) (Xc (r:=Xa) 6 rfl (λ_ s=>s.r)))) λa87 C88=>(Xx (J:=_) C88 a87 rfl rfl (λ_ s=>(SC.i (SC.i SC.t s.l.r) s.l.l.l.l.l.r)))) (Us (K:=K) (r:=Xa) (f:=λa95=>(Rs.bind (JM a95 k44) λx105=>(Rs.bind (Rs.bind (Rs.bind (Rs.ok a_1) λx107=>(Rs.bind (Rs.ok (4:Int)) λx108=>(atR x107 x108))) λx110=>(Rs.bind (Rs.bind (JM a95 k44) λx109=>(Rs.ok (x109.length:Int))) λx111=>(Qd x110 x111))) λx104=>(Rs.bind (Rs.bind (Rs.bind (Rs.bind (Rs.ok (10:Int)) λx112=>(Rs.bind (Rs.ok (6:Int)) λx113=>(DC x112 x113))) λx114=>(Rs.ok (-x114))) λx117=>(Rs.bind (Rs.bind (Rs.ok a_1) λx115=>(Rs.bind (Rs.ok (4:Int)) λx116=>(atR x115 x116))) λx118=>(Rs.ok (x117-x118)))) λx103=>(Rs.bind (Gk x105 x104 x103) λx106=>((λ(a101:List (List Int))=>(Rs.ok a101)) (a95.set k44 x106))))))) 5 0 rfl rfl (λ_ s=>s.l.l.l.l.r) (λ_ s=>s.l.r) (Xc (r:=Xa) 6 rfl (λ_ s=>s.r)) (EvB.sh (XJ (Jl (Xe 10) (Xe 6)) (Xr (Xc (r:=(rV Xa)) 1 rfl (λ_ s=>s.l.l.l.l.l.r)) (Xe 4)))) λa95 C96=>(Us (K:=K) (r:=Xa) (f:=λa101=>(Rs.ok a101)) 5 0 rfl rfl (λ_ s=>s.l.r) (λ_ s=>s.r) (XV (Xr (Xc (r:=(rV Xa)) 1 rfl (λ_ s=>s.l.l.l.l.l.l.l.r)) (Xe 4)) (XQ (Gj (r:=Xa) (v:=v4) 5 0 rfl rfl (λ_ s=>s.l.r) (λ_ s=>s.r)))) (EvB.sh (ZY (ZK (Jl (Xe 10) (Xe 6))) (Xr (Xc (r:=(rV Xa)) 1 rfl (λ_ s=>s.l.l.l.l.l.l.l.r)) (Xe 4)))) λa101 C102=>(Xx (J:=_) C102 a101 rfl rfl (λ_ s=>(SC.i (SC.i SC.t s.l.r) s.l.l.l.l.l.l.l.r)))))))) λg125 x126=>(XD (Zy (YN (o:=(oL (oL (oF Xa)))) 2 0 rfl rfl (λ_ s=>s.l.r)) λ_=>(YN (o:=(oL (oF (rP2 Xa Xa)))) 3 2 rfl rfl (λ_ s=>s.r))))))))))
theorem Yy:FnScope ["_law_drawing","_law_some","_law_walks","_law_signs","_law_at","_law_crossing","_law_sign"] ["_law_drawing","_law_some"] (Xk ZS):=⟨rfl,rfl,rfl,by decide+kernel,rfl,by decide+kernel,by decide+kernel⟩
theorem Vv (D:Def K mg "_law_spoilt_sign" ZS ["_law_drawing","_law_some"])(g_copy:Fn P w K mg base 1 "_law_copy" ["_law_drawing"] (sp1 (rP2 (rV (rV Xa)) (rV (rP2 Xa Xa))) (oT2 (oL (oL (oF Xa))) (oL (oF (rP2 Xa Xa)))) YV K))(Y:Ecs XM K mg)(N1:XI K mg "NotADrawing" "fault")(Z:Blt mg):Fn P w K mg base 2 "_law_spoilt_sign" ["_law_drawing","_law_some"] (sp2 (rP2 (rV (rV Xa)) (rV (rP2 Xa Xa))) (rV Xa) (oT2 (oL (oL (oF Xa))) (oL (oF (rP2 Xa Xa)))) YL K):=by
 refine Zq D Yy (λvs H Q E h=>?_) (λf cdv A outer s H vs Q E hr h=>?_)
 ·obtain⟨v_0,v_1,a_0,a_1,b,rfl,_⟩:=h;rfl
 obtain⟨v_0,v_1,a_0,a_1,b,rfl,h_0,h_1,hm,q⟩:=h
 have hu:=hu8 hr
 have hu1:=Ze hr
 refine⟨_,(Xb (Z8 (Yj g_copy hr (by decide) (Xd (pv 0) Xh)) (Qt rfl (XX (Xy (i:=2) Yy.nd rfl (Or.inl rfl)) (XX (Xy (i:=3) Yy.nd rfl (Or.inl rfl)) ZE))))
  (Xb (XW (PW.pt (ZP (Xp ZH (Xo (Xj K rfl) rfl Z.b_len PySem.boot_len (Xd (pv 3) Xh)) Xg (XE _)) (Zv (Xp ZH (Xu (Xi K rfl) (pv 1) Xg (λ_ _=>rfl)) Xg (XE _)))))
   (Xb (XC (X7 (Xd (pv 2) (Xd (Xq K7 (pv 3) (Yn (Xd (X7 (Xd (Xq QS (Xu (Xi K rfl) (pv 1) Xg (λ_ _=>rfl)) Xg) (Xd Xg Xh))) Xh))) Xh))))
   Xf)
   Xf)
  (Xb (Xs (i:=4) Yy.nd rfl (Or.inl rfl) (Xq Yl (Xu (Xi K rfl) (pv 1) Xg (λ_ _=>rfl)) (Xo (Xj K rfl) rfl Z.b_len PySem.boot_len (Xd (pv 3) Xh))))
  (Xb (Z8 (Xu (Xi K rfl) (pv 3) (pv 4) (λ_ _=>rfl)) (Qt rfl (XX (Xy (i:=5) Yy.nd rfl (Or.inl rfl)) (XX (Xy (i:=6) Yy.nd rfl (Or.inl rfl)) ZE))))
  (Xb (XW (Xp ZH (Xu (Xi K rfl) (pv 1) Xg (λ_ _=>rfl)) Xg (XE _))
   (Xb (XN (Y7 PySem.F.plainAttrs_list PySem.F.slot_list_pop PySem.F.type_list_pop QR (pv 3) (Xd (pv 4) Xh)))
   Xf)
   (Xb (XW (Xp ZH (Xu (Xi K rfl) (pv 1) Xg (λ_ _=>rfl)) Xg (XE _))
    (Xb (XN (Y7 PySem.F.plainAttrs_list PySem.F.slot_list_insert PySem.F.type_list_insert Qa (pv 3) (Xd (pv 4) (Xd (X7 (Xd (pv 5) (Xd (pv 6) Xh))) Xh))))
    Xf)
    (Xb (XW (Xp ZH (Xu (Xi K rfl) (pv 1) Xg (λ_ _=>rfl)) Xg (XE _))
     (Xb (XN (Y7 PySem.F.plainAttrs_list PySem.F.slot_list_pop PySem.F.type_list_pop QR (pv 3) (Xd (pv 4) Xh)))
     (Xb (XN (Y7 PySem.F.plainAttrs_list PySem.F.slot_list_insert PySem.F.type_list_insert Qa (pv 3) (Xd (Xq XZ (pv 4) Xg) (Xd (X7 (Xd (pv 5) (Xd (pv 6) Xh))) Xh))))
     Xf))
     (Xb (XW (Xp ZH (Xu (Xi K rfl) (pv 1) Xg (λ_ _=>rfl)) Xg (XE _))
      (Xb (Z8 (X7 (Xd (pv 5) (Xd (Xu (Xi K rfl) (Yn (Xd Xg (Xd Xg (Xd (Vr Qs Xg) Xh)))) (Xq Yl (Xu (Xi K rfl) (pv 1) Xg (λ_ _=>rfl)) Xg) (λ_ _=>rfl)) Xh))) (UQ (pv 3) (pv 4) QQ))
      Xf)
      (Xb (XW (Xp ZH (Xu (Xi K rfl) (pv 1) Xg (λ_ _=>rfl)) Xg (XE _))
       (Xb (Z8 (X7 (Xd (Vr Qs (pv 5)) (Xd (pv 6) Xh))) (UQ (pv 3) (pv 4) QQ))
       Xf)
       (Xb (Z8 (X7 (Xd (Xu (XY K rfl) (Xu (Xi K rfl) (pv 3) (Xq Yl (Xu (Xi K rfl) (pv 1) Xg (λ_ _=>rfl)) (Xo (Xj K rfl) rfl Z.b_len PySem.boot_len (Xd (pv 3) Xh))) (λ_ _=>rfl)) Xg (λ_ _=>rfl)) (Xd (pv 6) Xh))) (UQ (pv 3) (pv 4) QQ))
       Xf))
      Xf))
     Xf))
    Xf))
   Xf))
  (Xb (XC (X7 (Xd (pv 2) (Xd (pv 3) Xh))))
  Xf)))))),?_⟩
 refine Zj (S:=(SC.add (SC.add SC.nil K (rP2 (rV (rV Xa)) (rV (rP2 Xa Xa))) v_0 a_0) K (rV Xa) v_1 a_1)) (σ:=[some v_0,some v_1,none,none,none,none,none]) 2 ?_ (SC.i (SC.i SC.t h_0) h_1) hm q rfl
 unfold YL
 exact(G8 (K:=K) (o1:=(oL (oL (oF Xa)))) (o2:=(oL (oF (rP2 Xa Xa)))) 2 3 0 1 (XS (Xc (r:=(rP2 (rV (rV Xa)) (rV (rP2 Xa Xa)))) 0 rfl (λ_ s=>s.l.r))) (Nat.le_of_ble_eq_true rfl) (Nat.le_of_ble_eq_true rfl) λa3 v4 v5 C6 C7=>(YG (Y4 (Xl (K:=K) (YS (XQ (XR (o:=(oL (oF (rP2 Xa Xa)))) 3 1 rfl rfl (λ_ s=>s.r))) (Xe 0))) (Xl (K:=K) (YS (Xr (Xc (r:=(rV Xa)) 1 rfl (λ_ s=>s.l.l.r)) (Xe 1)) (Xe 0)))) (XD (Zy (YN (o:=(oL (oL (oF Xa)))) 2 0 rfl rfl (λ_ s=>s.l.r)) λ_=>(F7 (BY (r:=(rP2 Xa Xa)) 3 2 rfl rfl (λ_ s=>s.r)) (Ev.ls (Z1 (Xm (YJ (EvB.sh (ZY (Xr (Xc (r:=(rV Xa)) 1 rfl (λ_ s=>s.l.l.r)) (Xe 4)) (Xe 3))) (EvB.sh (Xe 1))) X9)))))) (XH (K:=K) (r:=Xa) 4 (EvB.sh (XV (Xr (Xc (r:=(rV Xa)) 1 rfl (λ_ s=>s.l.l.r)) (Xe 3)) (XQ (XR (o:=(oL (oF (rP2 Xa Xa)))) 3 1 rfl rfl (λ_ s=>s.r))))) λa29 v30=>(Gn 5 6 (EvB.sh (Xr (XR (o:=(oL (oF (rP2 Xa Xa)))) 3 1 rfl rfl (λ_ s=>s.l.r)) (Xc (r:=Xa) 4 rfl (λ_ s=>s.r)))) λa38 v39 v40=>(Yt (J:=({oo:=λx46=>[C6,x46.2],ss:=λx46=>[some v_0,some v_1,some v4,some x46.1,some v30,some v39,some v40],sc:=λg47 x46=>(SC.addO (SC.add (SC.add (SC.add (SC.addO (SC.add (SC.add SC.nil K (rP2 (rV (rV Xa)) (rV (rP2 Xa Xa))) v_0 a_0) K (rV Xa) v_1 a_1) K (oL (oL (oF Xa))) v4 a3.1 C6) K Xa v30 a29) K Xa v39 a38.1) K Xa v40 a38.2) K (oL (oF (rP2 Xa Xa))) x46.1 g47 x46.2)}:Jn ((List (Int×Int))) (V×List XA))) (YW (Fd:=FNd ({oo:=λx46=>[C6,x46.2],ss:=λx46=>[some v_0,some v_1,some v4,some x46.1,some v30,some v39,some v40],sc:=λg47 x46=>(SC.addO (SC.add (SC.add (SC.add (SC.addO (SC.add (SC.add SC.nil K (rP2 (rV (rV Xa)) (rV (rP2 Xa Xa))) v_0 a_0) K (rV Xa) v_1 a_1) K (oL (oL (oF Xa))) v4 a3.1 C6) K Xa v30 a29) K Xa v39 a38.1) K Xa v40 a38.2) K (oL (oF (rP2 Xa Xa))) x46.1 g47 x46.2)}:Jn ((List (Int×Int))) (V×List XA))) (Xl (K:=K) (YS (Xr (Xc (r:=(rV Xa)) 1 rfl (λ_ s=>s.l.l.l.l.l.r)) (Xe 1)) (Xe 1))) (DB (K:=K) (r:=(rP2 Xa Xa)) (f:=λa48=>(Rs.ok (a48))) 3 1 rfl rfl (λ_ s=>s.l.l.l.r) (Xc (r:=Xa) 4 rfl (λ_ s=>s.l.l.r)) λa48 C49=>(Xx (J:=_) (v5,C49) (a48) rfl rfl (λ_ s=>(SC.i (SC.i (SC.i (SC.i s.l.l.l.l.l s.l.l.l.r) s.l.l.r) s.l.r) s.r)))) (Yt (J:=({oo:=λx57=>[C6,x57.2],ss:=λx57=>[some v_0,some v_1,some v4,some x57.1,some v30,some v39,some v40],sc:=λg58 x57=>(SC.addO (SC.add (SC.add (SC.add (SC.addO (SC.add (SC.add SC.nil K (rP2 (rV (rV Xa)) (rV (rP2 Xa Xa))) v_0 a_0) K (rV Xa) v_1 a_1) K (oL (oL (oF Xa))) v4 a3.1 C6) K Xa v30 a29) K Xa v39 a38.1) K Xa v40 a38.2) K (oL (oF (rP2 Xa Xa))) x57.1 g58 x57.2)}:Jn ((List (Int×Int))) (V×List XA))) (YW (Fd:=FNd ({oo:=λx57=>[C6,x57.2],ss:=λx57=>[some v_0,some v_1,some v4,some x57.1,some v30,some v39,some v40],sc:=λg58 x57=>(SC.addO (SC.add (SC.add (SC.add (SC.addO (SC.add (SC.add SC.nil K (rP2 (rV (rV Xa)) (rV (rP2 Xa Xa))) v_0 a_0) K (rV Xa) v_1 a_1) K (oL (oL (oF Xa))) v4 a3.1 C6) K Xa v30 a29) K Xa v39 a38.1) K Xa v40 a38.2) K (oL (oF (rP2 Xa Xa))) x57.1 g58 x57.2)}:Jn ((List (Int×Int))) (V×List XA))) (Xl (K:=K) (YS (Xr (Xc (r:=(rV Xa)) 1 rfl (λ_ s=>s.l.l.l.l.l.r)) (Xe 1)) (Xe 2))) (BJ (K:=K) (r:=(rP2 Xa Xa)) 3 1 rfl rfl (λ_ s=>s.l.l.l.r) (Xc (r:=Xa) 4 rfl (λ_ s=>s.l.l.r)) (YJ (Xz (r:=Xa) 5 rfl (λ_ s=>s.l.r)) (Xz (r:=Xa) 6 rfl (λ_ s=>s.r))) λa59 C60=>(Xx (J:=_) (v5,C60) (a59) rfl rfl (λ_ s=>(SC.i (SC.i (SC.i (SC.i s.l.l.l.l.l s.l.l.l.r) s.l.l.r) s.l.r) s.r)))) (Yt (J:=({oo:=λx70=>[C6,x70.2],ss:=λx70=>[some v_0,some v_1,some v4,some x70.1,some v30,some v39,some v40],sc:=λg71 x70=>(SC.addO (SC.add (SC.add (SC.add (SC.addO (SC.add (SC.add SC.nil K (rP2 (rV (rV Xa)) (rV (rP2 Xa Xa))) v_0 a_0) K (rV Xa) v_1 a_1) K (oL (oL (oF Xa))) v4 a3.1 C6) K Xa v30 a29) K Xa v39 a38.1) K Xa v40 a38.2) K (oL (oF (rP2 Xa Xa))) x70.1 g71 x70.2)}:Jn ((List (Int×Int))) (V×List XA))) (YW (Fd:=FNd ({oo:=λx70=>[C6,x70.2],ss:=λx70=>[some v_0,some v_1,some v4,some x70.1,some v30,some v39,some v40],sc:=λg71 x70=>(SC.addO (SC.add (SC.add (SC.add (SC.addO (SC.add (SC.add SC.nil K (rP2 (rV (rV Xa)) (rV (rP2 Xa Xa))) v_0 a_0) K (rV Xa) v_1 a_1) K (oL (oL (oF Xa))) v4 a3.1 C6) K Xa v30 a29) K Xa v39 a38.1) K Xa v40 a38.2) K (oL (oF (rP2 Xa Xa))) x70.1 g71 x70.2)}:Jn ((List (Int×Int))) (V×List XA))) (Xl (K:=K) (YS (Xr (Xc (r:=(rV Xa)) 1 rfl (λ_ s=>s.l.l.l.l.l.r)) (Xe 1)) (Xe 3))) (DB (K:=K) (r:=(rP2 Xa Xa)) (f:=λa72=>(Rs.bind (Rs.bind (Rs.ok a29) λx80=>(Rs.bind (Rs.ok (1:Int)) λx81=>(Rs.ok (x80+x81)))) λx79=>(Rs.bind (Rs.bind (Rs.ok a38.1) λx82=>(Rs.bind (Rs.ok a38.2) λx83=>(Rs.ok (x82,x83)))) λx78=>(Rs.bind (Gk a72 x79 x78) λa76=>(Rs.ok (a76)))))) 3 1 rfl rfl (λ_ s=>s.l.l.l.r) (Xc (r:=Xa) 4 rfl (λ_ s=>s.l.l.r)) λa72 C73=>(BJ (K:=K) (r:=(rP2 Xa Xa)) 3 1 rfl rfl (λ_ s=>s.r) (XJ (Xc (r:=Xa) 4 rfl (λ_ s=>s.l.l.l.r)) (Xe 1)) (YJ (Xz (r:=Xa) 5 rfl (λ_ s=>s.l.l.r)) (Xz (r:=Xa) 6 rfl (λ_ s=>s.l.r))) λa76 C77=>(Xx (J:=_) (v5,C77) (a76) rfl rfl (λ_ s=>(SC.i (SC.i (SC.i (SC.i s.l.l.l.l.l.l s.l.l.l.l.r) s.l.l.l.r) s.l.l.r) s.r))))) (Yt (J:=({oo:=λx89=>[C6,x89.2],ss:=λx89=>[some v_0,some v_1,some v4,some x89.1,some v30,some v39,some v40],sc:=λg90 x89=>(SC.addO (SC.add (SC.add (SC.add (SC.addO (SC.add (SC.add SC.nil K (rP2 (rV (rV Xa)) (rV (rP2 Xa Xa))) v_0 a_0) K (rV Xa) v_1 a_1) K (oL (oL (oF Xa))) v4 a3.1 C6) K Xa v30 a29) K Xa v39 a38.1) K Xa v40 a38.2) K (oL (oF (rP2 Xa Xa))) x89.1 g90 x89.2)}:Jn ((List (Int×Int))) (V×List XA))) (YW (Fd:=FNd ({oo:=λx89=>[C6,x89.2],ss:=λx89=>[some v_0,some v_1,some v4,some x89.1,some v30,some v39,some v40],sc:=λg90 x89=>(SC.addO (SC.add (SC.add (SC.add (SC.addO (SC.add (SC.add SC.nil K (rP2 (rV (rV Xa)) (rV (rP2 Xa Xa))) v_0 a_0) K (rV Xa) v_1 a_1) K (oL (oL (oF Xa))) v4 a3.1 C6) K Xa v30 a29) K Xa v39 a38.1) K Xa v40 a38.2) K (oL (oF (rP2 Xa Xa))) x89.1 g90 x89.2)}:Jn ((List (Int×Int))) (V×List XA))) (Xl (K:=K) (YS (Xr (Xc (r:=(rV Xa)) 1 rfl (λ_ s=>s.l.l.l.l.l.r)) (Xe 1)) (Xe 4))) (JC (K:=K) (o:=(oF (rP2 Xa Xa))) 3 1 rfl rfl (λ_ s=>s.l.l.l.r) (EvS.ev (YJ (Xz (r:=Xa) 5 rfl (λ_ s=>s.l.r)) (EvB.sh (Xr (Ev.toB (Z1 (Xm (EvB.sh (Xe 0)) (Xm (EvB.sh (Xe 2)) (Xm (EvB.sh (ZK (Xe 3))) X9))))) (XV (Xr (Xc (r:=(rV Xa)) 1 rfl (λ_ s=>s.l.l.l.l.l.r)) (Xe 4)) (Xe 3)))))) (λ_=>(Xc (r:=Xa) 4 rfl (λ_ s=>s.l.l.r))) λa109 C110=>(Xx (J:=_) (v5,C110) (a109) rfl rfl (λ_ s=>(SC.i (SC.i (SC.i (SC.i s.l.l.l.l.l s.l.l.l.r) s.l.l.r) s.l.r) s.r)))) (Yt (J:=({oo:=λx116=>[C6,x116.2],ss:=λx116=>[some v_0,some v_1,some v4,some x116.1,some v30,some v39,some v40],sc:=λg117 x116=>(SC.addO (SC.add (SC.add (SC.add (SC.addO (SC.add (SC.add SC.nil K (rP2 (rV (rV Xa)) (rV (rP2 Xa Xa))) v_0 a_0) K (rV Xa) v_1 a_1) K (oL (oL (oF Xa))) v4 a3.1 C6) K Xa v30 a29) K Xa v39 a38.1) K Xa v40 a38.2) K (oL (oF (rP2 Xa Xa))) x116.1 g117 x116.2)}:Jn ((List (Int×Int))) (V×List XA))) (YW (Fd:=FNd ({oo:=λx116=>[C6,x116.2],ss:=λx116=>[some v_0,some v_1,some v4,some x116.1,some v30,some v39,some v40],sc:=λg117 x116=>(SC.addO (SC.add (SC.add (SC.add (SC.addO (SC.add (SC.add SC.nil K (rP2 (rV (rV Xa)) (rV (rP2 Xa Xa))) v_0 a_0) K (rV Xa) v_1 a_1) K (oL (oL (oF Xa))) v4 a3.1 C6) K Xa v30 a29) K Xa v39 a38.1) K Xa v40 a38.2) K (oL (oF (rP2 Xa Xa))) x116.1 g117 x116.2)}:Jn ((List (Int×Int))) (V×List XA))) (Xl (K:=K) (YS (Xr (Xc (r:=(rV Xa)) 1 rfl (λ_ s=>s.l.l.l.l.l.r)) (Xe 1)) (Xe 5))) (JC (K:=K) (o:=(oF (rP2 Xa Xa))) 3 1 rfl rfl (λ_ s=>s.l.l.l.r) (EvS.ev (YJ (EvB.sh (ZK (Xc (r:=Xa) 5 rfl (λ_ s=>s.l.r)))) (Xz (r:=Xa) 6 rfl (λ_ s=>s.r)))) (λ_=>(Xc (r:=Xa) 4 rfl (λ_ s=>s.l.l.r))) λa123 C124=>(Xx (J:=_) (v5,C124) (a123) rfl rfl (λ_ s=>(SC.i (SC.i (SC.i (SC.i s.l.l.l.l.l s.l.l.l.r) s.l.l.r) s.l.r) s.r)))) (JC (K:=K) (o:=(oF (rP2 Xa Xa))) 3 1 rfl rfl (λ_ s=>s.l.l.l.r) (EvS.ev (YJ (EvB.sh (ZU (Xr (XR (o:=(oL (oF (rP2 Xa Xa)))) 3 1 rfl rfl (λ_ s=>s.l.l.l.r)) (XV (Xr (Xc (r:=(rV Xa)) 1 rfl (λ_ s=>s.l.l.l.l.l.r)) (Xe 4)) (XQ (XR (o:=(oL (oF (rP2 Xa Xa)))) 3 1 rfl rfl (λ_ s=>s.l.l.l.r))))))) (Xz (r:=Xa) 6 rfl (λ_ s=>s.r)))) (λ_=>(Xc (r:=Xa) 4 rfl (λ_ s=>s.l.l.r))) λa137 C138=>(Xx (J:=_) (v5,C138) (a137) rfl rfl (λ_ s=>(SC.i (SC.i (SC.i (SC.i s.l.l.l.l.l s.l.l.l.r) s.l.l.r) s.l.r) s.r))))) λg140 x139=>(Xx (J:=_) (x139.1,x139.2) (g140) rfl rfl (λ_ s=>s)))) λg142 x141=>(Xx (J:=_) (x141.1,x141.2) (g142) rfl rfl (λ_ s=>s)))) λg144 x143=>(Xx (J:=_) (x143.1,x143.2) (g144) rfl rfl (λ_ s=>s)))) λg146 x145=>(Xx (J:=_) (x145.1,x145.2) (g146) rfl rfl (λ_ s=>s)))) λg148 x147=>(XD (Zy (YN (o:=(oL (oL (oF Xa)))) 2 0 rfl rfl (λ_ s=>s.l.l.l.l.r)) λ_=>(YN (o:=(oL (oF (rP2 Xa Xa)))) 3 2 rfl rfl (λ_ s=>s.r)))))))))
theorem Qi:FnScope ["_law_walks","_law_named","_law_at","_law_place","_law_one","_law_ahead","_law_every","_law_walk"] ["_law_walks","_law_named","_law_at","_law_place"] (Xk Kp):=⟨rfl,rfl,rfl,by decide+kernel,rfl,by decide+kernel,by decide+kernel⟩
theorem C5 (D:Def K mg "_law_wrong" Kp ["_law_walks","_law_named","_law_at","_law_place"])(Y:Ecs XM K mg)(N1:XI K mg "NotADrawing" "fault")(Z:Blt mg):Fn P w K mg base 1 "_law_wrong" ["_law_walks","_law_named","_law_at","_law_place"] (sp4 (rV (rV Xa)) (rV Xa) Xa Xa (oF Xt) QK K):=by
 refine Zq D Qi (λvs H Q E h=>?_) (λf cdv A outer s H vs Q E hr h=>?_)
 ·obtain⟨v_0,v_1,v_2,v_3,a_0,a_1,a_2,a_3,b,rfl,_⟩:=h;rfl
 obtain⟨v_0,v_1,v_2,v_3,a_0,a_1,a_2,a_3,b,rfl,h_0,h_1,h_2,h_3,hm,q⟩:=h
 have hu:=hu8 hr
 have hu1:=Ze hr
 refine⟨_,(Xb (Xs (i:=4) Qi.nd rfl (Or.inl rfl) (Xu (Xi K rfl) (Xu (Xi K rfl) (pv 0) (pv 2) (λ_ _=>rfl)) (pv 3) (λ_ _=>rfl)))
  (Xb (Xs (i:=5) Qi.nd rfl (Or.inl rfl) (Zt (YI K rfl) rfl Z.b_list PyProof.Rows.boot_list (Xd (QP (JE K rfl) (Xu (Xi K rfl) (pv 0) (pv 2) (λ_ _=>rfl)) Uv (Jh (pv 3))) Xh)))
  (Xb (Xs (i:=6) Qi.nd rfl (Or.inl rfl) (Yn Xh))
  (Xb (Yv PassesOwn.never rfl (Yo (K:=K) rfl (pv 0)) (Xy (i:=7) Qi.nd rfl (Or.inl rfl))
   (Xb (XN (Y7 PySem.F.plainAttrs_list PySem.F.slot_list_extend PySem.F.type_list_extend Z4 (pv 6) (Xd (pv 7) Xh)))
   Xf))
  (Xb (Yv PassesOwn.never rfl (Yo (K:=K) rfl (QP (JE K rfl) (pv 0) Uv (Jh (pv 2)))) (Xy (i:=7) Qi.nd rfl (Or.inl rfl))
   (Xb (XN (Y7 PySem.F.plainAttrs_list PySem.F.slot_list_extend PySem.F.type_list_extend Z4 (pv 5) (Xd (pv 7) Xh)))
   Xf))
  (Xb (XW (PW.pt (ZP (Xp ZH (pv 4) Xg (XE _)) (Zv (Xp Fc (pv 4) (pv 5) rfl))))
   (Xb (XC Zs)
   Xf)
   Xf)
  (Xb (XC (Hi (Jj (QV K rfl) (Vr Qs (pv 4)) (pv 6) rfl) (VB (Jj (QV K rfl) (Xo Gs rfl Z.b_abs PyProof.Rows.boot_abs (Xd (pv 4) Xh)) (pv 1) rfl))))
  Xf))))))),?_⟩
 refine Zj (S:=(SC.add (SC.add (SC.add (SC.add SC.nil K (rV (rV Xa)) v_0 a_0) K (rV Xa) v_1 a_1) K Xa v_2 a_2) K Xa v_3 a_3)) (σ:=[some v_0,some v_1,some v_2,some v_3,none,none,none,none]) 3 ?_ (SC.i (SC.i (SC.i (SC.i SC.t h_0) h_1) h_2) h_3) hm q rfl
 unfold QK
 exact(XH (K:=K) (r:=Xa) 4 (EvB.sh (Xr (Xr (Xc (r:=(rV (rV Xa))) 0 rfl (λ_ s=>s.l.l.l.r)) (Xc (r:=Xa) 2 rfl (λ_ s=>s.l.r))) (Xc (r:=Xa) 3 rfl (λ_ s=>s.r)))) λa1 v2=>(Ya (K:=K) (o:=(oL (oF Xa))) 5 2 (Q7 (Ev.ls (Ul (EvB.ls (Xr (Xc (r:=(rV (rV Xa))) 0 rfl (λ_ s=>s.l.l.l.l.r)) (Xc (r:=Xa) 2 rfl (λ_ s=>s.l.l.r)))) JG (Qb (K:=K) (Xc (r:=Xa) 3 rfl (λ_ s=>s.l.r)))))) (Nat.le_of_ble_eq_true rfl) λa7 v8 C9=>(Ya (K:=K) (o:=(oL (oF Xa))) 6 0 (Jg (o:=(oF Xa))) (Nat.le_of_ble_eq_true rfl) λa17 v18 C19=>(Zu (K:=K) (J:=({oo:=λx20=>[x20.2.2,[],C9],ss:=λx20=>[some v_0,some v_1,some v_2,some v_3,some v2,some v8,some x20.2.1,x20.1],sc:=λg21 x20=>(SC.addO (SC.addO (SC.add (SC.add (SC.add (SC.add (SC.add SC.nil K (rV (rV Xa)) v_0 a_0) K (rV Xa) v_1 a_1) K Xa v_2 a_2) K Xa v_3 a_3) K Xa v2 a1) K (oL (oF Xa)) v8 a7 C9) K (oL (oF Xa)) x20.2.1 g21 x20.2.2)}:Jn ((List Int)) (Option V×V×List XA))) (λ_=>tg1 7) ((none),v18,C19) (a17) (X5 (Xz (r:=(rV (rV Xa))) 0 rfl (λ_ s=>s.l.l.l.l.l.l.r))) rfl rfl (λ_ s=>s) (λg22 x23 a24 v25=>(V3 (K:=K) (r:=Xa) (f:=λa28=>(Rs.ok (a28))) 6 0 rfl rfl (λ_ s=>s.l.r) (Xc (r:=(rV Xa)) 7 rfl (λ_ s=>s.r)) λa26 C27=>(Xx (J:=_) ((some v25),x23.2.1,C27) ((g22++a26)) rfl rfl (λ_ s=>(SC.i s.l.l.l s.r))))) λg29 x30=>(Zu (K:=K) (J:=({oo:=λx35=>[x30.2.2,[],x35.2.2],ss:=λx35=>[some v_0,some v_1,some v_2,some v_3,some v2,some x35.2.1,some x30.2.1,x35.1],sc:=λg36 x35=>(SC.addO (SC.addO (SC.add (SC.add (SC.add (SC.add (SC.add SC.nil K (rV (rV Xa)) v_0 a_0) K (rV Xa) v_1 a_1) K Xa v_2 a_2) K Xa v_3 a_3) K Xa v2 a1) K (oL (oF Xa)) x30.2.1 g29 x30.2.2) K (oL (oF Xa)) x35.2.1 g36 x35.2.2)}:Jn ((List Int)) (Option V×V×List XA))) (λ_=>tg1 7) ((x30.1),v8,C9) (a7) (X5 (Ev.sh (Ul (EvS.ls (Xz (r:=(rV (rV Xa))) 0 rfl (λ_ s=>s.l.l.l.l.l.l.r))) JG (Qb (K:=K) (Xc (r:=Xa) 2 rfl (λ_ s=>s.l.l.l.l.r)))))) rfl rfl (λ_ s=>(SC.i (SC.i s.l.l s.r) s.l.r)) (λg37 x38 a39 v40=>(V3 (K:=K) (r:=Xa) (f:=λa43=>(Rs.ok (a43))) 5 2 rfl rfl (λ_ s=>s.l.r) (Xc (r:=(rV Xa)) 7 rfl (λ_ s=>s.r)) λa41 C42=>(Xx (J:=_) ((some v40),x38.2.1,C42) ((g37++a41)) rfl rfl (λ_ s=>(SC.i s.l.l.l s.r))))) λg44 x45=>(YG (Y4 (Xl (K:=K) (YS (Xc (r:=Xa) 4 rfl (λ_ s=>s.l.l.r)) (Xe 0))) (Xl (K:=K) (HH (Xc (r:=Xa) 4 rfl (λ_ s=>s.l.l.r)) (XR (o:=(oL (oF Xa))) 5 2 rfl rfl (λ_ s=>s.r))))) (XD (EvS.ev (EvB.sh (YE true)))) (XD (EvS.ev (EvB.sh (Fk (KQ (ZK (Xc (r:=Xa) 4 rfl (λ_ s=>s.l.l.r))) (XR (o:=(oL (oF Xa))) 6 0 rfl rfl (λ_ s=>s.l.r))) (KQ (FQ (Xc (r:=Xa) 4 rfl (λ_ s=>s.l.l.r))) (Xc (r:=(rV Xa)) 1 rfl (λ_ s=>s.l.l.l.l.l.r)))))))))))))
theorem Qn:FnScope ["_law_drawing","_law_walks","_law_signs","_law_named","_law_every","_law_at","_law_place","_law_crossing","_law_sign"] ["_law_drawing"] (Xk Cz):=⟨rfl,rfl,rfl,by decide+kernel,rfl,by decide+kernel,by decide+kernel⟩
theorem HY (D:Def K mg "_law_due" Cz ["_law_drawing"])(g_wrong:Fn P w K mg base 1 "_law_wrong" ["_law_walks","_law_named","_law_at","_law_place"] (sp4 (rV (rV Xa)) (rV Xa) Xa Xa (oF Xt) QK K))(Y:Ecs XM K mg)(N1:XI K mg "NotADrawing" "fault")(Z:Blt mg):Fn P w K mg base 2 "_law_due" ["_law_drawing"] (sp1 (rP2 (rV (rV Xa)) (rV (rP2 Xa Xa))) (oF (Y0 (rPL (rEi Yu Xa)))) KD K):=by
 refine Zq D Qn (λvs H Q E h=>?_) (λf cdv A outer s H vs Q E hr h=>?_)
 ·obtain⟨v_0,a_0,b,rfl,_⟩:=h;rfl
 obtain⟨v_0,a_0,b,rfl,h_0,hm,q⟩:=h
 have hu:=hu8 hr
 have hu1:=Ze hr
 refine⟨_,(Xb (Z8 (pv 0) (Qt rfl (XX (Xy (i:=1) Qn.nd rfl (Or.inl rfl)) (XX (Xy (i:=2) Qn.nd rfl (Or.inl rfl)) ZE))))
  (Xb (Um 3 (Xk Cz) ["_law_drawing","_law_walks","_law_signs","_law_named","_law_every","_law_at","_law_place","_law_crossing","_law_sign"] ["_law_crossing","_law_sign"] [] rfl Qn.nd rfl rfl (Yo (K:=K) rfl (pv 2)) (B9 (by decide) (by decide)) (λcl C s H ex E=>⟨EJ K rfl rfl (XX (Xy (i:=0) (show List.Nodup (["_law_crossing","_law_sign"]:List Str) by decide+kernel) rfl (Or.inl rfl)) (XX (Xy (i:=1) (show List.Nodup (["_law_crossing","_law_sign"]:List Str) by decide+kernel) rfl (Or.inl rfl)) ZE)),QF,(pv 0)⟩))
  (Xb (Xs (i:=4) Qn.nd rfl (Or.inl rfl) (Yn Xh))
  (Xb (Yv PassesOwn.never rfl (Yb rfl Z.b_range (Xd (Xo (Xj K rfl) rfl Z.b_len PySem.boot_len (Xd (pv 1) Xh)) Xh)) (Xy (i:=5) Qn.nd rfl (Or.inl rfl))
   (Xb (XN (Y7 PySem.F.plainAttrs_list PySem.F.slot_list_extend PySem.F.type_list_extend Z4 (pv 4) (Xd (Xu (Xi K rfl) (pv 1) (pv 5) (λ_ _=>rfl)) Xh)))
   (Xb (Yv PassesOwn.never rfl (Yb rfl Z.b_range (Xd (Xo (Xj K rfl) rfl Z.b_len PySem.boot_len (Xd (Xu (Xi K rfl) (pv 1) (pv 5) (λ_ _=>rfl)) Xh)) Xh)) (Xy (i:=6) Qn.nd rfl (Or.inl rfl))
    (Xb (XW (YR (Yj g_wrong hr (by decide) (Xd (pv 1) (Xd (pv 3) (Xd (pv 5) (Xd (pv 6) Xh))))))
     (Xb (XC (X7 (Xd Qo (Xd (pv 5) (Xd (pv 6) Xh)))))
     Xf)
     Xf)
    Xf))
   Xf)))
  (Xb (Yv PassesOwn.never rfl (Yb rfl Z.b_range (Xd (Xo (Xj K rfl) rfl Z.b_len PySem.boot_len (Xd (pv 2) Xh)) Xh)) (Xy (i:=5) Qn.nd rfl (Or.inl rfl))
   (Xb (Z8 (Xu (Xi K rfl) (pv 2) (pv 5) (λ_ _=>rfl)) (Qt rfl (XX (Xy (i:=7) Qn.nd rfl (Or.inl rfl)) (XX (Xy (i:=8) Qn.nd rfl (Or.inl rfl)) ZE))))
   (Xb (XW (PW.pt (ZP (PW.pt (Bp (Xp ZH (pv 5) Xg (XE _)) (Db (Xp GW (pv 7) Xg (XE _))))) (Zv (PW.pt (Bp (Xp UK (pv 5) Xg (XE _)) (Db (Xp Ic (pv 7) (Xu (XY K rfl) (Xu (Xi K rfl) (pv 2) (Xq QS (pv 5) Xg) (λ_ _=>rfl)) Xg (λ_ _=>rfl)) (XE _))))))))
    (Xb (XC (X7 (Xd Qo (Xd (pv 5) Xh))))
    Xf)
    Xf)
   (Xb (XW (PW.pt (ZP (Xp Cj (Xq YC (pv 8) (pv 8)) Xg (XE _)) (Zv (Xp Z6 (pv 7) (pv 4) rfl))))
    (Xb (XC (X7 (Xd Qo (Xd (pv 5) Xh))))
    Xf)
    Xf)
   Xf))))
  (Xb (XW (Xp UK (Xo (Xj K rfl) rfl Z.b_len PySem.boot_len (Xd (pv 2) Xh)) Xg (XE _))
   (Xb (XC (X7 (Xd Qo (Xd (Xo (Xj K rfl) rfl Z.b_len PySem.boot_len (Xd (pv 2) Xh)) Xh))))
   Xf)
   Xf)
  (Xb (XW (Xp UK (Xo (Xj K rfl) rfl Z.b_len PySem.boot_len (Xd (pv 1) Xh)) Xg (XE _))
   (Xb (XC (X7 (Xd Qo (Xd (Xo (Xj K rfl) rfl Z.b_len PySem.boot_len (Xd (pv 1) Xh)) Xh))))
   Xf)
   Xf)
  (Xb (XC ZN)
  Xf)))))))),?_⟩
 refine Zj (S:=(SC.add SC.nil K (rP2 (rV (rV Xa)) (rV (rP2 Xa Xa))) v_0 a_0)) (σ:=[some v_0,none,none,none,none,none,none,none,none]) 2 ?_ (SC.i SC.t h_0) hm q rfl
 unfold KD
 exact(Gn 1 2 (Xz (r:=(rP2 (rV (rV Xa)) (rV (rP2 Xa Xa)))) 0 rfl (λ_ s=>s.r)) λa1 v2 v3=>(XH (K:=K) (r:=(rV Xa)) 3 (Ev.sh (Qv (λ_=>tg2 0 1) (X5 (Xz (r:=(rV (rP2 Xa Xa))) 2 rfl (λ_ s=>s.r))) (λC6 a7 v8=>(EvS.ev (Xz (r:=Xa) 0 rfl (λ_ s=>s.l.r)))))) λa4 v5=>(Ya (K:=K) (o:=(oL (oF Xa))) 4 0 (Jg (o:=(oF Xa))) (Nat.le_of_ble_eq_true rfl) λa10 v11 C12=>(Qu (K:=K) (J:=({oo:=λx15=>[x15.2.2.2,[]],ss:=λx15=>[some v_0,some v2,some v3,some v5,some x15.2.2.1,x15.1,x15.2.1,none,none],sc:=λg16 x15=>(SC.addO (SC.add (SC.add (SC.add (SC.add SC.nil K (rP2 (rV (rV Xa)) (rV (rP2 Xa Xa))) v_0 a_0) K (rV (rV Xa)) v2 a1.1) K (rV (rP2 Xa Xa)) v3 a1.2) K (rV Xa) v5 a4) K (oL (oF Xa)) x15.2.2.1 g16 x15.2.2.2)}:Jn ((List Int)) (Option V×Option V×V×List XA))) (λ_=>tg1 5) ((none),(none),v11,C12) (a10) (XO (XQ (Xc (r:=(rV (rV Xa))) 1 rfl (λ_ s=>s.l.l.l.r)))) rfl rfl (λ_ s=>s) (λg17 x18 a19 v20=>(V3 (K:=K) (r:=Xa) (f:=λa27=>(Rs.bind (Rs.bind (Rs.bind (Rs.bind (Rs.ok a1.1) λx28=>(Rs.bind (Rs.ok a19) λx29=>(atR x28 x29))) λx30=>(Rs.ok (x30.length:Int))) λx31=>(UD 0 x31)) λx60=>(Rs.bind (forC x60 () (λg34 a36=>(Rs.bind (Rs.bind (Rs.ok a1.1) λx39=>(Rs.bind (Rs.ok a4) λx40=>(Rs.bind (Rs.ok a19) λx41=>(Rs.bind (Rs.ok a36) λx42=>(noE (QK x39 x40 x41 x42)))))) λx43=>(if x43=true then(Rs.bind (Rs.bind (Rs.bind ((Rs.bind (Rs.bind (Rs.ok ("walk":Str)) λx50=>(Rs.ok (Sum.inl x50))) λx51=>(Rs.bind (Rs.bind (Rs.bind (Rs.ok a19) λx47=>(Rs.ok (Sum.inr x47))) λx48=>(Rs.bind (Rs.bind (Rs.bind (Rs.ok a36) λx44=>(Rs.ok (Sum.inr x44))) λx45=>(Rs.bind (Rs.ok []) λx46=>(Rs.ok (x45::x46)))) λx49=>(Rs.ok (x48::x49)))) λx52=>(Rs.ok (x51::x52)))):Rs (List (Str ⊕ Int))) λx53=>(chk (x53.length<=sizeLine) (Rs.ok x53))) λx54=>(Rs.ok (some x54))) λx56=>(Rs.ok (Ctl.ret x56))) else(Rs.bind (Rs.ok ()) λx55=>(Rs.ok (Ctl.nx x55))))))) (Qp λg57=>(Rs.bind (Rs.ok (a27)) λx59=>(Rs.ok (Ctl.nx x59))))))) 4 0 rfl rfl (λ_ s=>s.l.r) (Xr (Xc (r:=(rV (rV Xa))) 1 rfl (λ_ s=>s.l.l.l.l.r)) (Xc (r:=Xa) 5 rfl (λ_ s=>s.r))) λa25 C26=>(V9 (K:=K) (J:=({oo:=λx32=>[C26,[]],ss:=λx32=>[some v_0,some v2,some v3,some v5,some x18.2.2.1,some v20,x32,none,none],sc:=λg33 x32=>(SC.add (SC.addO (SC.add (SC.add (SC.add (SC.add SC.nil K (rP2 (rV (rV Xa)) (rV (rP2 Xa Xa))) v_0 a_0) K (rV (rV Xa)) v2 a1.1) K (rV (rP2 Xa Xa)) v3 a1.2) K (rV Xa) v5 a4) K (oL (oF Xa)) x18.2.2.1 (g17++a25) C26) K Xa v20 a19)}:Jn (Unit) (Option V))) (λ_=>tg1 6) ((x18.2.1)) () (XO (XQ (Xr (Xc (r:=(rV (rV Xa))) 1 rfl (λ_ s=>s.l.l.l.l.l.r)) (Xc (r:=Xa) 5 rfl (λ_ s=>s.l.r))))) rfl rfl (λ_ s=>(SC.i (SC.i s.l.l.l s.r) s.l.r)) (λg34 x35 a36 v37=>(ZD (Zo (K:=K) (Ev.toB (Gb (Xc (r:=(rV (rV Xa))) 1 rfl (λ_ s=>s.l.l.l.l.l.r)) (Xc (r:=(rV Xa)) 3 rfl (λ_ s=>s.l.l.l.r)) (Xc (r:=Xa) 5 rfl (λ_ s=>s.l.r)) (Xc (r:=Xa) 6 rfl (λ_ s=>s.r))))) (XD (Zb Vm (EvS.ev (Zd (Xm (ZI (p:=Xa) (EvB.sh (ZG _))) (Xm (Zk (o:=Yu) (Xz (r:=Xa) 5 rfl (λ_ s=>s.l.r))) (Xm (Zk (o:=Yu) (Xz (r:=Xa) 6 rfl (λ_ s=>s.r))) X9))))))) (Qq (Xx (J:=_) ((some v37)) () rfl rfl (λ_ s=>s.l))))) λg57 x58=>(Qq (Xx (J:=_) ((some v20),(x58),x18.2.2.1,C26) ((g17++a25)) rfl rfl (λ_ s=>s.l)))))) λg61 x62=>(Qu (K:=K) (J:=({oo:=λx65=>[x62.2.2.2,[]],ss:=λx65=>[some v_0,some v2,some v3,some v5,some x62.2.2.1,x65.1,x62.2.1,x65.2.1,x65.2.2],sc:=λg66 x65=>(SC.addO (SC.add (SC.add (SC.add (SC.add SC.nil K (rP2 (rV (rV Xa)) (rV (rP2 Xa Xa))) v_0 a_0) K (rV (rV Xa)) v2 a1.1) K (rV (rP2 Xa Xa)) v3 a1.2) K (rV Xa) v5 a4) K (oL (oF Xa)) x62.2.2.1 g61 x62.2.2.2)}:Jn (Unit) (Option V×Option V×Option V))) (λ_=>tg1 5) ((x62.1),(none),(none)) () (XO (XQ (Xc (r:=(rV (rP2 Xa Xa))) 2 rfl (λ_ s=>s.l.l.r)))) rfl rfl (λ_ s=>s) (λg67 x68 a69 v70=>(Gn 7 8 (EvB.sh (Xr (Xc (r:=(rV (rP2 Xa Xa))) 2 rfl (λ_ s=>s.l.l.l.r)) (Xc (r:=Xa) 5 rfl (λ_ s=>s.r)))) λa73 v74 v75=>(ZD (Y4 (DG (Xl (K:=K) (YS (Xc (r:=Xa) 5 rfl (λ_ s=>s.l.l.r)) (Xe 0))) (Xl (K:=K) (VG (Xc (r:=Xa) 7 rfl (λ_ s=>s.l.r)) (Xe 1)))) (DG (Xl (K:=K) (Jq (Xc (r:=Xa) 5 rfl (λ_ s=>s.l.l.r)) (Xe 0))) (Xl (K:=K) (BR (Xc (r:=Xa) 7 rfl (λ_ s=>s.l.r)) (ZU (Xr (Xc (r:=(rV (rP2 Xa Xa))) 2 rfl (λ_ s=>s.l.l.l.l.l.r)) (ZY (Xc (r:=Xa) 5 rfl (λ_ s=>s.l.l.r)) (Xe 1)))))))) (XD (Zb Vm (EvS.ev (Zd (Xm (ZI (p:=Xa) (EvB.sh (ZG _))) (Xm (Zk (o:=Yu) (Xz (r:=Xa) 5 rfl (λ_ s=>s.l.l.r))) X9)))))) (ZD (Y4 (Xl (K:=K) (Gy (X3 (Xc (r:=Xa) 8 rfl (λ_ s=>s.r)) (Xc (r:=Xa) 8 rfl (λ_ s=>s.r))) (Xe 1))) (Xl (K:=K) (KQ (Xc (r:=Xa) 7 rfl (λ_ s=>s.l.r)) (XR (o:=(oL (oF Xa))) 4 0 rfl rfl (λ_ s=>s.l.l.l.r))))) (XD (Zb Vm (EvS.ev (Zd (Xm (ZI (p:=Xa) (EvB.sh (ZG _))) (Xm (Zk (o:=Yu) (Xz (r:=Xa) 5 rfl (λ_ s=>s.l.l.r))) X9)))))) (Qq (Xx (J:=_) ((some v70),(some v74),(some v75)) () rfl rfl (λ_ s=>s.l.l.l))))))) λg116 x117=>(YG (Xl (K:=K) (Jq (XQ (Xc (r:=(rV (rP2 Xa Xa))) 2 rfl (λ_ s=>s.l.l.r))) (Xe 40))) (XD (Zb Vm (EvS.ev (Zd (Xm (ZI (p:=Xa) (EvB.sh (ZG _))) (Xm (Zk (o:=Yu) (EvB.sh (XQ (Xc (r:=(rV (rP2 Xa Xa))) 2 rfl (λ_ s=>s.l.l.r))))) X9)))))) (YG (Xl (K:=K) (Jq (XQ (Xc (r:=(rV (rV Xa))) 1 rfl (λ_ s=>s.l.l.l.r))) (Xe 12))) (XD (Zb Vm (EvS.ev (Zd (Xm (ZI (p:=Xa) (EvB.sh (ZG _))) (Xm (Zk (o:=Yu) (EvB.sh (XQ (Xc (r:=(rV (rV Xa))) 1 rfl (λ_ s=>s.l.l.l.r))))) X9)))))) (XD JS))))))))
theorem Dx:FnScope ["_law_found","_law_due_here","_law_one"] ["_law_found","_law_due_here"] (Xk Di):=⟨rfl,rfl,rfl,by decide+kernel,rfl,by decide+kernel,by decide+kernel⟩
theorem E4 (D:Def K mg "_law_same" Di ["_law_found","_law_due_here"])(g_is_whole:Fn P w K mg base 1 "_law_is_whole" ["_law_one"] (sp1 Xa (oF Xt) Y5 K))(Y:Ecs XM K mg)(N1:XI K mg "NotADrawing" "fault")(Z:Blt mg):Fn P w K mg base 2 "_law_same" ["_law_found","_law_due_here"] (sp2 (Y0 (rPL (rEi Yu Xa))) (Y0 (rPL (rEi Yu Xa))) (oF Xt) Ju K):=by
 refine Zq D Dx (λvs H Q E h=>?_) (λf cdv A outer s H vs Q E hr h=>?_)
 ·obtain⟨v_0,v_1,a_0,a_1,b,rfl,_⟩:=h;rfl
 obtain⟨v_0,v_1,a_0,a_1,b,rfl,h_0,h_1,hm,q⟩:=h
 have hu:=hu8 hr
 have hu1:=Ze hr
 refine⟨_,(Xb (XW (Xp VM (pv 1) ZN (XE _))
   (Xb (XC (Jj VM (pv 0) ZN (XE _)))
   Xf)
   Xf)
  (Xb (XW (PW.pt (ZP (Zi (YR (Xo Ys rfl Z.b_isinstance PyProof.Rows.boot_isinstance (Xd (pv 0) (Xd (ZF (v:=V.ty "tuple") rfl Z.b_tuple PyProof.Rows.boot_tuple rfl) Xh))))) (Zv (Xp Cj (Xo (Xj K rfl) rfl Z.b_len PySem.boot_len (Xd (pv 0) Xh)) (Xo (Xj K rfl) rfl Z.b_len PySem.boot_len (Xd (pv 1) Xh)) (XE _)))))
   (Xb (XC Zs)
   Xf)
   Xf)
  (Xb (Yv PassesOwn.never rfl (Ey (K:=K) rfl (QP (Hb K rfl) (pv 0) (Jh Xg) Uv)) (Xy (i:=2) Dx.nd rfl (Or.inl rfl))
   (Xb (XW (Zi (YR (Yj g_is_whole hr (by decide) (Xd (pv 2) Xh))))
    (Xb (XC Zs)
    Xf)
    Xf)
   Xf))
  (Xb (XC (K6 (Xo Ys rfl Z.b_isinstance PyProof.Rows.boot_isinstance (Xd (Xu (XY K rfl) (pv 0) Xg (λ_ _=>rfl)) (Xd (ZF (v:=V.ty "str") rfl Z.b_str PyProof.Rows.boot_str rfl) Xh))) (VB (Jj (Bu (HN rfl rfl (Lq (Ib IY eq_int (Iv (r:=Yu) (q:=Xa) rfl rfl)))) (Kl (by decide) hu)) (pv 0) (pv 1) (XE _)))))
  Xf)))),?_⟩
 refine Zj (S:=(SC.add (SC.add SC.nil K (Y0 (rPL (rEi Yu Xa))) v_0 a_0) K (Y0 (rPL (rEi Yu Xa))) v_1 a_1)) (σ:=[some v_0,some v_1,none]) 0 ?_ (SC.i (SC.i SC.t h_0) h_1) hm q rfl
 unfold Ju
 exact(YG (Xl (K:=K) (QZ (tb:=tC .non) (Xc (r:=(Y0 (rPL (rEi Yu Xa)))) 1 rfl (λ_ s=>s.r)))) (XD (EvS.ev (EvB.sh (QZ (tb:=tC .non) (Xc (r:=(Y0 (rPL (rEi Yu Xa)))) 0 rfl (λ_ s=>s.l.r)))))) (YG (Y4 (YD (Zo (K:=K) (Kt "tuple" true false (ZB K "tuple") (Vu K) (Xc (r:=(Y0 (rPL (rEi Yu Xa)))) 0 rfl (λ_ s=>s.l.r))))) (Xl (K:=K) (Gy (V4 (DL (Xc (r:=(Y0 (rPL (rEi Yu Xa)))) 0 rfl (λ_ s=>s.l.r)))) (V4 (DL (Xc (r:=(Y0 (rPL (rEi Yu Xa)))) 1 rfl (λ_ s=>s.r))))))) (XD (EvS.ev (EvB.sh (YE false)))) (Et (K:=K) (r:=(rPL (rEi Yu Xa))) (λ_ s=>s.l.r) λa11=>(Qu (K:=K) (J:=({oo:=λx16=>[],ss:=λx16=>[some v_0,some v_1,x16],sc:=λg17 x16=>(SC.add (SC.add SC.nil K (rPL (rEi Yu Xa)) v_0 a11) K (Y0 (rPL (rEi Yu Xa))) v_1 a_1)}:Jn (Unit) (Option V))) (λ_=>tg1 2) ((none)) () (Cy (EvB.sh (GH (Xc (r:=(rPL (rEi Yu Xa))) 0 rfl (λ_ s=>s.r)) (Qb (K:=K) (Xe 1)) JG))) rfl rfl (λ_ s=>(SC.i (SC.i SC.t s.r) s.l.r)) (λg18 x19 a20 v21=>(Be (K:=K) (r:=Yu) (q:=Xa) (λ_ s=>s.r) λa22=>(ZD (YD (Zo (K:=K) (Ev.toB (XS (Xc (r:=Xa) 2 rfl (λ_ s=>s.r)))))) (XD (EvS.ev (EvB.sh (YE false)))) (Qq (Xx (J:=_) ((some v21)) () rfl rfl (λ_ s=>s.l.l)))))) λg29 x30=>(XD (EvS.ev (EvB.sh (JH (YZ "str" true (ZB K "str") (EQ (ET (Xc (r:=(rPL (rEi Yu Xa))) 0 rfl (λ_ s=>s.l.r)) (Xe 0)))) (F8 (DX (Xc (r:=(rPL (rEi Yu Xa))) 0 rfl (λ_ s=>s.l.r))) (Xc (r:=(Y0 (rPL (rEi Yu Xa)))) 1 rfl (λ_ s=>s.r)))))))))))
theorem Q0:FnScope ["_law_drawing","e","_law_fine"] ["_law_drawing"] (Xk JR):=⟨rfl,rfl,rfl,by decide+kernel,rfl,by decide+kernel,by decide+kernel⟩
theorem GQ (D:Def K mg "_law_refused" JR ["_law_drawing"])(g_checked:FnD P w K mg base 3 "checked" ["drawing"] (HG mg (rP2 (rV (rV Xa)) (rV (rP2 Xa Xa))) (oT2 (oL (oL (oF Xa))) (oL (oF (rP2 Xa Xa)))) Ye K))(Y:Ecs XM K mg)(N1:XI K mg "NotADrawing" "fault")(Z:Blt mg):Fn P w K mg base 4 "_law_refused" ["_law_drawing"] (sp1 (rP2 (rV (rV Xa)) (rV (rP2 Xa Xa))) (oF (rP2 Xt (Y0 (rPL (rEi Yu Xa))))) ZR K):=by
 refine Zq D Q0 (λvs H Q E h=>?_) (λf cdv A outer s H vs Q E hr h=>?_)
 ·obtain⟨v_0,a_0,b,rfl,_⟩:=h;rfl
 obtain⟨v_0,a_0,b,rfl,h_0,hm,q⟩:=h
 obtain⟨C_PlaitError,h_PlaitError,q_PlaitError⟩:=Y.adr "PlaitError" (.head _)
 obtain⟨C_NotADrawing,h_NotADrawing,q_NotADrawing⟩:=Y.adr "NotADrawing" (.tail _ (.head _))
 obtain⟨C_NoCrossing,h_NoCrossing,q_NoCrossing⟩:=Y.adr "NoCrossing" (.tail _ (.tail _ (.head _)))
 obtain⟨C_TooBig,h_TooBig,q_TooBig⟩:=Y.adr "TooBig" (.tail _ (.tail _ (.tail _ (.head _))))
 have hu:=hu8 hr
 have hu1:=Ze hr
 refine⟨_,(Xb (BV (λ_ _ z=>z) g_checked hr (by decide) (Xd (pv 0) Xh) rfl rfl rfl rfl h_NotADrawing Q0.nd (i:=1) rfl rfl rfl (λpn a o C vs od hm hc ho hd=>(Xb (Xs (i:=2) Q0.nd rfl (Or.inl rfl) (K6 (Xo (JF rfl hm hc rfl) rfl Z.b_isinstance PyProof.Rows.boot_isinstance (Xd (pv 1) (Xd (Uf (v:=V.ref C_PlaitError) rfl h_PlaitError rfl) Xh))) (VB (Xo (JF rfl hm hc rfl) rfl Z.b_isinstance PyProof.Rows.boot_isinstance (Xd (pv 1) (Xd (ZF (v:=V.ty "ValueError") rfl Z.b_ValueError PyProof.Rows.Boot.«ValueError» rfl) Xh))))))
   (Xb (XW (PW.pt (ZP (YR (Xo (JF rfl hm hc rfl) rfl Z.b_isinstance PyProof.Rows.boot_isinstance (Xd (pv 1) (Xd (Uf (v:=V.ref C_NoCrossing) rfl h_NoCrossing rfl) Xh)))) (ZP (YR (Xo (JF rfl hm hc rfl) rfl Z.b_isinstance PyProof.Rows.boot_isinstance (Xd (pv 1) (Xd (Uf (v:=V.ref C_TooBig) rfl h_TooBig rfl) Xh)))) (Zv (Zi (YR (pv 2)))))))
    (Xb (XC (X7 (Xd Zs (Xd (X7 (Xd Qo (Xd Xg Xh))) Xh))))
    Xf)
    Xf)
   (Xb (XC (X7 (Xd Zs (Xd (Eg rfl hm hc ho hd (pv 1) rfl rfl) Xh))))
   Xf)))))
  (Xb (XC (X7 (Xd Zs (Xd ZN Xh))))
  Xf)),?_⟩
 refine Zj (S:=(SC.add SC.nil K (rP2 (rV (rV Xa)) (rV (rP2 Xa Xa))) v_0 a_0)) (σ:=[some v_0,none,none]) 0 ?_ (SC.i SC.t h_0) hm q rfl
 unfold ZR
 exact(CN (K:=K) (d:="NotADrawing") (ns:=XM) (i:=1) (o:=(oF (rP2 Xt (Y0 (rPL (rEi Yu Xa)))))) (o1:=(oT2 (oL (oL (oF Xa))) (oL (oF (rP2 Xa Xa))))) Y (.tail _ (.head _)) h_NotADrawing (Xc (r:=(rP2 (rV (rV Xa)) (rV (rP2 Xa Xa)))) 0 rfl (λ_ s=>s.r)) (λx1 hx hi C a od hC=>(XH (K:=K) (r:=Xt) 2 (EvB.sh (JH (Km 1 rfl (Y.att _ hx C hC) (Y.kit _ hx "PlaitError" (.head _) C C_PlaitError hC h_PlaitError)) (ES 1 rfl (Y.att _ hx C hC) (Y.val _ hx C hC)))) λa3 v4=>(YG (Y4 (Zo (K:=K) (Km 1 rfl (Y.att _ hx C hC) (Y.kit _ hx "NoCrossing" (.tail _ (.tail _ (.head _))) C C_NoCrossing hC h_NoCrossing))) (Y4 (Zo (K:=K) (Km 1 rfl (Y.att _ hx C hC) (Y.kit _ hx "TooBig" (.tail _ (.tail _ (.tail _ (.head _)))) C C_TooBig hC h_TooBig))) (YD (Zo (K:=K) (Xc (r:=Xt) 2 rfl (λ_ s=>s.r)))))) (XD (EvS.ev (YJ (EvB.sh (Ev.toB (EvS.ev (EvB.sh (YE true))))) (EvB.sh (Ev.toB (o:=(oF (Y0 (rPL (rEi Yu Xa))))) (Zb Vm (EvS.ev (Zd (Xm (ZI (p:=Xa) (EvB.sh (ZG _))) (Xm (Zk (o:=Yu) (EvB.sh (Xe 0))) X9)))))))))) (XD (EvS.ev (YJ (EvB.sh (Ev.toB (EvS.ev (EvB.sh (YE true))))) (EvB.sh (Ev.toB (o:=(oF (Y0 (rPL (rEi Yu Xa))))) (EvS.ev (Ci (CA (n:=x1.cls) (by rw[VZ hi (by decide)];rfl) 1 rfl (Y.att _ hx C hC) (N1.di C (VZ hi (by decide)▸hC)).1 (N1.di C (VZ hi (by decide)▸hC)).2 (λ_ s=>s.l.r)))))))))))) (XD (EvS.ev (YJ (EvB.sh (Ev.toB (EvS.ev (EvB.sh (YE false))))) (EvB.sh (Ev.toB (o:=(oF (Y0 (rPL (rEi Yu Xa))))) JS))))))
theorem Uj:FnScope ["_law_drawing","_law_handed","_law_found"] ["_law_drawing"] (Xk KM):=⟨rfl,rfl,rfl,by decide+kernel,rfl,by decide+kernel,by decide+kernel⟩
theorem Cg (D:Def K mg "_law_taken" KM ["_law_drawing"])(g_copy:Fn P w K mg base 1 "_law_copy" ["_law_drawing"] (sp1 (rP2 (rV (rV Xa)) (rV (rP2 Xa Xa))) (oT2 (oL (oL (oF Xa))) (oL (oF (rP2 Xa Xa)))) YV K))(g_checked:FnD P w K mg base 3 "checked" ["drawing"] (HG mg (rP2 (rV (rV Xa)) (rV (rP2 Xa Xa))) (oT2 (oL (oL (oF Xa))) (oL (oF (rP2 Xa Xa)))) Ye K))(g_is_drawing:Fn P w K mg base 2 "_law_is_drawing" ["_law_found"] (sp1 (rP2 (rV (rV Xa)) (rV (rP2 Xa Xa))) (oF Xt) Y2 K))(g_fault:Fn P w K mg base 2 "fault" ["drawing"] (sp1 (rP2 (rV (rV Xa)) (rV (rP2 Xa Xa))) (oF (Y0 (rPL (rEi Yu Xa)))) Za K))(Y:Ecs XM K mg)(N1:XI K mg "NotADrawing" "fault")(Z:Blt mg):Fn P w K mg base 4 "_law_taken" ["_law_drawing"] (sp1 (rP2 (rV (rV Xa)) (rV (rP2 Xa Xa))) (oF Xt) Qy K):=by
 refine Zq D Uj (λvs H Q E h=>?_) (λf cdv A outer s H vs Q E hr h=>?_)
 ·obtain⟨v_0,a_0,b,rfl,_⟩:=h;rfl
 obtain⟨v_0,a_0,b,rfl,h_0,hm,q⟩:=h
 have hu:=hu8 hr
 have hu1:=Ze hr
 refine⟨_,(Xb (Xs (i:=1) Uj.nd rfl (Or.inl rfl) (Yj g_copy hr (by decide) (Xd (pv 0) Xh)))
  (Xb (Xs (i:=2) Uj.nd rfl (Or.inl rfl) (By g_checked hr (by decide) Dk (Xd (pv 1) Xh)))
  (Xb (XW (PW.pt (ZP (Zi (YR (Yj g_is_drawing hr (by decide) (Xd (pv 2) Xh)))) (ZP (Xp (U8 (Jw (UE (UE eq_int)) (UE (Jw eq_int eq_int))) (Kl (by decide) hu)) (pv 2) (pv 0) (XE _)) (Zv (Xp (U8 (Jw (UE (UE eq_int)) (UE (Jw eq_int eq_int))) (Kl (by decide) hu)) (pv 1) (pv 0) (XE _))))))
   (Xb (XC Zs)
   Xf)
   Xf)
  (Xb (XN (Y7 PySem.F.plainAttrs_list PySem.F.slot_list_append PySem.F.type_list_append X6 (Xu (XY K rfl) (pv 1) Xg (λ_ _=>rfl)) (Xd (Yn (Xd Xg Xh)) Xh Z3)))
  (Xb (XN (Hk PySem.F.plainAttrs_list PySem.F.slot_list_clear PySem.F.type_list_clear Bd (Xu (XY K rfl) (pv 1) Xg (λ_ _=>rfl))))
  (Xb (XW (Xp UK (Xo (Xj K rfl) rfl Z.b_len PySem.boot_len (Xd (Xu (XY K rfl) (pv 0) Xg (λ_ _=>rfl)) Xh)) Xg (XE _))
   (Xb (XN (Y7 PySem.F.plainAttrs_list PySem.F.slot_list_append PySem.F.type_list_append X6 (Xu (Xi K rfl) (Xu (XY K rfl) (pv 1) Xg (λ_ _=>rfl)) Xg (λ_ _=>rfl)) (Xd Xg Xh)))
   Xf)
   Xf)
  (Xb (XW (Xp (U8 (Jw (UE (UE eq_int)) (UE (Jw eq_int eq_int))) (Kl (by decide) hu)) (pv 2) (pv 0) (XE _))
   (Xb (XC Zs)
   Xf)
   Xf)
  (Xb (XN (Y7 PySem.F.plainAttrs_list PySem.F.slot_list_append PySem.F.type_list_append X6 (Xu (XY K rfl) (pv 2) Xg (λ_ _=>rfl)) (Xd (Yn Xh) Xh Z3)))
  (Xb (XC (K6 (Jj (Bu (Jw (UE (UE eq_int)) (UE (Jw eq_int eq_int))) (Kl (by decide) hu)) (By g_checked hr (by decide) Dk (Xd (Yj g_copy hr (by decide) (Xd (pv 0) Xh)) Xh)) (pv 0) (XE _)) (VB (Jj VM (Yj g_fault hr (by decide) (Xd (Yj g_copy hr (by decide) (Xd (pv 0) Xh)) Xh)) ZN (XE _)))))
  Xf))))))))),?_⟩
 refine Zj (S:=(SC.add SC.nil K (rP2 (rV (rV Xa)) (rV (rP2 Xa Xa))) v_0 a_0)) (σ:=[some v_0,none,none]) 6 ?_ (SC.i SC.t h_0) hm q rfl
 unfold Qy
 exact(Ya (K:=K) (o:=(oT2 (oL (oL (oF Xa))) (oL (oF (rP2 Xa Xa))))) 1 0 (XS (Xc (r:=(rP2 (rV (rV Xa)) (rV (rP2 Xa Xa)))) 0 rfl (λ_ s=>s.r))) (Nat.le_of_ble_eq_true rfl) λa1 v2 C3=>(Ya (K:=K) (o:=(oT2 (oL (oL (oF Xa))) (oL (oF (rP2 Xa Xa))))) 2 1 (UX (XR (o:=(oT2 (oL (oL (oF Xa))) (oL (oF (rP2 Xa Xa))))) 1 0 rfl rfl (λ_ s=>s.r))) (Nat.le_of_ble_eq_true rfl) λa6 v7 C8=>(YG (Y4 (YD (Zo (K:=K) (Ev.toB (XS (XR (o:=(oT2 (oL (oL (oF Xa))) (oL (oF (rP2 Xa Xa))))) 2 1 rfl rfl (λ_ s=>s.r)))))) (Y4 (Xl (K:=K) (JU (XR (o:=(oT2 (oL (oL (oF Xa))) (oL (oF (rP2 Xa Xa))))) 2 1 rfl rfl (λ_ s=>s.r)) (Xc (r:=(rP2 (rV (rV Xa)) (rV (rP2 Xa Xa)))) 0 rfl (λ_ s=>s.l.l.r)))) (Xl (K:=K) (JU (XR (o:=(oT2 (oL (oL (oF Xa))) (oL (oF (rP2 Xa Xa))))) 1 0 rfl rfl (λ_ s=>s.l.r)) (Xc (r:=(rP2 (rV (rV Xa)) (rV (rP2 Xa Xa)))) 0 rfl (λ_ s=>s.l.l.r)))))) (XD (EvS.ev (EvB.sh (YE false)))) (Gv (K:=K) (o1:=(oL (oL (oF Xa)))) (o2:=(oL (oF (rP2 Xa Xa)))) 0 2 3 rfl (Nat.le_of_ble_eq_true rfl) (Nat.le_of_ble_eq_true rfl) (λ_ s=>s.l.r) λv19 v20 C21 C22=>(F6 (K:=K) (o:=(oL (oF Xa))) (f:=λa28=>((λ(a30:(List (Int×Int)))=>(Rs.bind (Rs.bind (Rs.bind (Rs.bind (Rs.bind (Rs.ok a_0) λx31=>(Rs.ok x31.1)) λx32=>(Rs.ok (x32.length:Int))) λx33=>(Rs.bind (Rs.ok (0:Int)) λx34=>(Rs.ok (decide (x34<x33))))) λx35=>(if x35=true then(Rs.bind (Rs.ok (0:Int)) λx39=>(Rs.bind (atR a28 x39) λx40=>(Rs.bind (Rs.ok (5:Int)) λx38=>(chk (x40.length<sizeLine) (Rs.bind (Qg a28 x39 (x40++[x38])) λa41=>(Rs.ok ())))))) else(Rs.ok ()))) λg44=>(Rs.bind (Rs.bind (Rs.ok a6) λx45=>(Rs.bind (Rs.ok a_0) λx46=>(Rs.ok (!(decide (x45=x46)))))) λx47=>(if x47=true then(Rs.ok false) else(Rs.bind (Rs.ok []) λa53=>(chk (a6.1.length<sizeLine) ((λ(a55:(List (List Int)))=>(Kg (Rs.bind (Rs.bind (Rs.bind (Rs.ok a_0) λx57=>(noE (YV x57))) λx58=>(noE (Ye x58))) λx59=>(Rs.bind (Rs.ok a_0) λx60=>(Rs.ok (decide (x59=x60))))) (Rs.bind (Rs.bind (Rs.bind (Rs.ok a_0) λx63=>(noE (YV x63))) λx64=>(noE (Za x64))) λx65=>(Rs.ok x65.isNone)))) (a6.1++[a53])))))))) [])) 2 (FK 1 rfl (λ_ s=>s.l.l.l.r)) rfl rfl (λ_ s=>s.l.r) (Z1 (Xm (EvB.sh (Xe 7)) X9)) λa26 C27=>(DP (K:=K) (o:=(oF (rP2 Xa Xa))) (f:=λa30=>(Rs.bind (Rs.bind (Rs.bind (Rs.bind (Rs.bind (Rs.ok a_0) λx31=>(Rs.ok x31.1)) λx32=>(Rs.ok (x32.length:Int))) λx33=>(Rs.bind (Rs.ok (0:Int)) λx34=>(Rs.ok (decide (x34<x33))))) λx35=>(if x35=true then(Rs.bind (Rs.ok (0:Int)) λx39=>(Rs.bind (atR (a1.1++[a26]) x39) λx40=>(Rs.bind (Rs.ok (5:Int)) λx38=>(chk (x40.length<sizeLine) (Rs.bind (Qg (a1.1++[a26]) x39 (x40++[x38])) λa41=>(Rs.ok ())))))) else(Rs.ok ()))) λg44=>(Rs.bind (Rs.bind (Rs.ok a6) λx45=>(Rs.bind (Rs.ok a_0) λx46=>(Rs.ok (!(decide (x45=x46)))))) λx47=>(if x47=true then(Rs.ok false) else(Rs.bind (Rs.ok []) λa53=>(chk (a6.1.length<sizeLine) ((λ(a55:(List (List Int)))=>(Kg (Rs.bind (Rs.bind (Rs.bind (Rs.ok a_0) λx57=>(noE (YV x57))) λx58=>(noE (Ye x58))) λx59=>(Rs.bind (Rs.ok a_0) λx60=>(Rs.ok (decide (x59=x60))))) (Rs.bind (Rs.bind (Rs.bind (Rs.ok a_0) λx63=>(noE (YV x63))) λx64=>(noE (Za x64))) λx65=>(Rs.ok x65.isNone)))) (a6.1++[a53])))))))) 3 (Hj 1 rfl (λ_ s=>s.l.l.l.r)) rfl (λ_ s=>s.l.r) λC29=>(Yt (J:=({oo:=λx36=>[[],C8,[],C29,[],[]],ss:=λx36=>[some v_0,x36.1,some v7],sc:=λg37 x36=>(SC.addO (SC.add SC.nil K (rP2 (rV (rV Xa)) (rV (rP2 Xa Xa))) v_0 a_0) K (oT2 (oL (oL (oF Xa))) (oL (oF (rP2 Xa Xa)))) v7 a6 C8)}:Jn (Unit) (Option V×Option V))) (YW (Fd:=FNd ({oo:=λx36=>[[],C8,[],C29,[],[]],ss:=λx36=>[some v_0,x36.1,some v7],sc:=λg37 x36=>(SC.addO (SC.add SC.nil K (rP2 (rV (rV Xa)) (rV (rP2 Xa Xa))) v_0 a_0) K (oT2 (oL (oL (oF Xa))) (oL (oF (rP2 Xa Xa)))) v7 a6 C8)}:Jn (Unit) (Option V×Option V))) (Xl (K:=K) (Jq (XQ (ZU (Xc (r:=(rP2 (rV (rV Xa)) (rV (rP2 Xa Xa)))) 0 rfl (λ_ s=>s.l.l.l.l.l.l.l.l.r)))) (Xe 0))) (Fw (K:=K) (r:=Xa) 2 (FK 1 rfl (λ_ s=>s.l.l.l.l.l.r)) rfl (λ_ s=>s.l.r) (EvB.sh (Xe 5)) (Xe 0) λa41 C42=>(Fy 2 (Xx (J:=_) ((some v2),(some v19)) () rfl rfl (λ_ s=>(SC.i (SC.i SC.t s.l.l.l.l.l.l.l.l.l.r) s.l.l.l.l.l.l.l.r))))) (Fy 2 (Xx (J:=_) ((some v2),(some v19)) () rfl rfl (λ_ s=>(SC.i (SC.i SC.t s.l.l.l.l.l.l.l.l.r) s.l.l.l.l.l.l.r))))) λg44 x43=>(YG (Xl (K:=K) (JU (XR (o:=(oT2 (oL (oL (oF Xa))) (oL (oF (rP2 Xa Xa))))) 2 1 rfl rfl (λ_ s=>s.r)) (Xc (r:=(rP2 (rV (rV Xa)) (rV (rP2 Xa Xa)))) 0 rfl (λ_ s=>s.l.r)))) (XD (EvS.ev (EvB.sh (YE false)))) (Gv (K:=K) (o1:=(oL (oL (oF Xa)))) (o2:=(oL (oF (rP2 Xa Xa)))) 1 4 5 rfl (Nat.le_of_ble_eq_true rfl) (Nat.le_of_ble_eq_true rfl) (λ_ s=>s.r) λv49 v50 C51 C52=>(F6 (K:=K) (o:=(oL (oF Xa))) (f:=λa55=>(Kg (Rs.bind (Rs.bind (Rs.bind (Rs.ok a_0) λx57=>(noE (YV x57))) λx58=>(noE (Ye x58))) λx59=>(Rs.bind (Rs.ok a_0) λx60=>(Rs.ok (decide (x59=x60))))) (Rs.bind (Rs.bind (Rs.bind (Rs.ok a_0) λx63=>(noE (YV x63))) λx64=>(noE (Za x64))) λx65=>(Rs.ok x65.isNone)))) 4 (FK 2 rfl (λ_ s=>s.l.l.l.r)) rfl rfl (λ_ s=>s.l.r) (Jg (o:=(oF Xa))) λa53 C54=>(XD (EvS.ev (EvB.sh (JH (F8 (Ev.toB (UX (Ev.toB (XS (Xc (r:=(rP2 (rV (rV Xa)) (rV (rP2 Xa Xa)))) 0 rfl (λ_ s=>s.l.l.l.l.l.l.r)))))) (Xc (r:=(rP2 (rV (rV Xa)) (rV (rP2 Xa Xa)))) 0 rfl (λ_ s=>s.l.l.l.l.l.l.r))) (QZ (tb:=tC .non) (Ev.toB (XS (Ev.toB (XS (Xc (r:=(rP2 (rV (rV Xa)) (rV (rP2 Xa Xa)))) 0 rfl (λ_ s=>s.l.l.l.l.l.l.r)))))))))))))))))))))
theorem ZM:FnScope ["_law_script","_law_drawing","_law_some","_law_spoilt","_law_k","_law_pick","_law_due_here","_law_handed","_law_refused_here","_law_found"] ["_law_script"] (Xk V0):=⟨rfl,rfl,rfl,by decide+kernel,rfl,by decide+kernel,by decide+kernel⟩
theorem Hy {f:Addr}{fd:FuncData}(F:Fun K "law" "law" V0 f fd)(g_drawn:Fn P w K mg base 3 "_law_drawn" ["_law_script","_law_place","_law_most"] (sp3 (rL Xa) Xa Xa (oT2 (oL (oL (oF Xa))) (oL (oF (rP2 Xa Xa)))) Jk K))(g_row:Fn P w K mg base 2 "_law_row" ["_law_script","_law_place","_law_sizes"] (sp3 (rL Xa) Xa (rV Xa) (oL (oF Xa)) Uh K))(g_copy:Fn P w K mg base 1 "_law_copy" ["_law_drawing"] (sp1 (rP2 (rV (rV Xa)) (rV (rP2 Xa Xa))) (oT2 (oL (oL (oF Xa))) (oL (oF (rP2 Xa Xa)))) YV K))(g_due:Fn P w K mg base 2 "_law_due" ["_law_drawing"] (sp1 (rP2 (rV (rV Xa)) (rV (rP2 Xa Xa))) (oF (Y0 (rPL (rEi Yu Xa)))) KD K))(g_refused:Fn P w K mg base 4 "_law_refused" ["_law_drawing"] (sp1 (rP2 (rV (rV Xa)) (rV (rP2 Xa Xa))) (oF (rP2 Xt (Y0 (rPL (rEi Yu Xa))))) ZR K))(g_taken:Fn P w K mg base 4 "_law_taken" ["_law_drawing"] (sp1 (rP2 (rV (rV Xa)) (rV (rP2 Xa Xa))) (oF Xt) Qy K))(g_large:Fn P w K mg base 1 "_law_large" ["_law_some"] (sp1 (rV Xa) (oT2 (oL (oL (oF Xa))) (oL (oF (rP2 Xa Xa)))) Q9 K))(g_spoilt_sign:Fn P w K mg base 2 "_law_spoilt_sign" ["_law_drawing","_law_some"] (sp2 (rP2 (rV (rV Xa)) (rV (rP2 Xa Xa))) (rV Xa) (oT2 (oL (oL (oF Xa))) (oL (oF (rP2 Xa Xa)))) YL K))(g_spoilt_walk:Fn P w K mg base 2 "_law_spoilt_walk" ["_law_drawing","_law_some"] (sp2 (rP2 (rV (rV Xa)) (rV (rP2 Xa Xa))) (rV Xa) (oT2 (oL (oL (oF Xa))) (oL (oF (rP2 Xa Xa)))) YM K))(g_same:Fn P w K mg base 2 "_law_same" ["_law_found","_law_due_here"] (sp2 (Y0 (rPL (rEi Yu Xa))) (Y0 (rPL (rEi Yu Xa))) (oF Xt) Ju K))(g_fault:Fn P w K mg base 2 "fault" ["drawing"] (sp1 (rP2 (rV (rV Xa)) (rV (rP2 Xa Xa))) (oF (Y0 (rPL (rEi Yu Xa)))) Za K))(Y:Ecs XM K mg)(N1:XI K mg "NotADrawing" "fault")(Z:Blt mg):FnOk P w K mg base CX0 5 f fd ["_law_script"] (sp1 (rL Xa) (oF Xt) Kj K):=by
 refine F.ok ZM (λvs H Q E h=>?_) (λcdv A outer s H vs Q E hr h=>?_)
 ·obtain⟨v_0,a_0,b,rfl,_⟩:=h;rfl
 obtain⟨v_0,a_0,b,rfl,h_0,hm,q⟩:=h
 have hu:=hu8 hr
 have hu1:=Ze hr
 refine⟨_,(Xb (Xs (i:=1) ZM.nd rfl (Or.inl rfl) (Yj g_drawn hr (by decide) (Xd (pv 0) (Xd Xg (Xd Xg Xh)))))
  (Xb (Xs (i:=2) ZM.nd rfl (Or.inl rfl) (Yj g_row hr (by decide) (Xd (pv 0) (Xd Xg (Xd (Xq K7 (Yn (Xd Xg (Xd Xg Xh))) (Xq Fu (Yn (Xd Xg (Xd Xg (Xd Xg (Xd Xg (Xd Xg (Xd Xg Xh))))))) Xg)) Xh)))))
  (Xb (XW (Xp ZH (Xu (Xi K rfl) (pv 2) Xg (λ_ _=>rfl)) Xg (XE _))
   (Xb (Xs (i:=1) ZM.nd rfl (Or.inl rfl) (Yj g_large hr (by decide) (Xd (Yj g_row hr (by decide) (Xd (pv 0) (Xd Xg (Xd (Yn (Xd Xg (Xd Xg (Xd Xg Xh)))) Xh Z3)))) Xh)))
   Xf)
   Xf)
  (Xb (Xs (i:=3) ZM.nd rfl (Or.inl rfl) (Yj g_copy hr (by decide) (Xd (pv 1) Xh)))
  (Xb (Yv PassesOwn.never rfl (Yb rfl Z.b_range (Xd (Xu (Xi K rfl) (pv 2) Xg (λ_ _=>rfl)) Xh)) (Xy (i:=4) ZM.nd rfl (Or.inl rfl))
   (Xb (Xs (i:=5) ZM.nd rfl (Or.inl rfl) (QP (JE K rfl) (pv 2) (Jh (Xq XZ (Xq YC Xg (pv 4)) Xg)) (Jh (Xq XZ (Xq YC Xg (pv 4)) Xg))))
   (Xb (XW (Xp ZH (Xu (Xi K rfl) (pv 5) Xg (λ_ _=>rfl)) Xg (XE _))
    (Xb (Xs (i:=3) ZM.nd rfl (Or.inl rfl) (Yj g_spoilt_sign hr (by decide) (Xd (pv 3) (Xd (pv 5) Xh))))
    Xf)
    (Xb (Xs (i:=3) ZM.nd rfl (Or.inl rfl) (Yj g_spoilt_walk hr (by decide) (Xd (pv 3) (Xd (pv 5) Xh))))
    Xf))
   Xf)))
  (Xb (Xs (i:=6) ZM.nd rfl (Or.inl rfl) (Yj g_due hr (by decide) (Xd (pv 3) Xh)))
  (Xb (Xs (i:=7) ZM.nd rfl (Or.inl rfl) (Yj g_copy hr (by decide) (Xd (pv 3) Xh)))
  (Xb (XW (PW.pt (ZP (Zi (YR (Yj g_same hr (by decide) (Xd (Yj g_fault hr (by decide) (Xd (pv 7) Xh)) (Xd (pv 6) Xh))))) (Zv (Xp (U8 (Jw (UE (UE eq_int)) (UE (Jw eq_int eq_int))) (Kl (by decide) hu)) (pv 7) (pv 3) (XE _)))))
   (Xb (XC Zs)
   Xf)
   Xf)
  (Xb (XW (Xp VM (pv 6) ZN (XE _))
   (Xb (XC (Yj g_taken hr (by decide) (Xd (pv 3) Xh)))
   Xf)
   Xf)
  (Xb (Z8 (Yj g_refused hr (by decide) (Xd (pv 7) Xh)) (Qt rfl (XX (Xy (i:=8) ZM.nd rfl (Or.inl rfl)) (XX (Xy (i:=9) ZM.nd rfl (Or.inl rfl)) ZE))))
  (Xb (XW (PW.pt (ZP (Zi (YR (pv 8))) (ZP (Zi (YR (Yj g_same hr (by decide) (Xd (pv 9) (Xd (pv 6) Xh))))) (Zv (Xp (U8 (Jw (UE (UE eq_int)) (UE (Jw eq_int eq_int))) (Kl (by decide) hu)) (pv 7) (pv 3) (XE _))))))
   (Xb (XC Zs)
   Xf)
   Xf)
  (Xb (XW (Xp Fx (Yj g_due hr (by decide) (Xd (pv 1) Xh)) ZN (XE _))
   (Xb (XC Zs)
   Xf)
   Xf)
  (Xb (XC (Yj g_taken hr (by decide) (Xd (pv 1) Xh)))
  Xf))))))))))))),?_⟩
 refine Zj (S:=(SC.add SC.nil K (rL Xa) v_0 a_0)) (σ:=[some v_0,none,none,none,none,none,none,none,none,none]) 0 ?_ (SC.i SC.t h_0) hm q rfl
 unfold Kj
 exact(XH (K:=K) (r:=(rP2 (rV (rV Xa)) (rV (rP2 Xa Xa)))) 1 (Ev.sh (ZZ (Xc (r:=(rL Xa)) 0 rfl (λ_ s=>s.r)) (Xe 0) (Xe 10))) λa1 v2=>(XH (K:=K) (r:=(rV Xa)) 2 (Ev.sh (ZZ (Xc (r:=(rL Xa)) 0 rfl (λ_ s=>s.l.r)) (Xe 1) (Ev.toB (F7 (Ev.ls (Z1 (Xm (EvB.sh (Xe 4)) (Xm (EvB.sh (Xe 3)) X9)))) (Ev.ls (Dn (Ev.ls (Z1 (Xm (EvB.sh (Xe 7)) (Xm (EvB.sh (Xe 7)) (Xm (EvB.sh (Xe 40)) (Xm (EvB.sh (Xe 90)) (Xm (EvB.sh (Xe 40)) (Xm (EvB.sh (Xe 2)) X9)))))))) (Xe 2))))))) λa7 v8=>(Yt (J:=({oo:=λx40=>[],ss:=λx40=>[some v_0,some x40,some v8,none,none,none,none,none,none,none],sc:=λg41 x40=>(SC.add (SC.add (SC.add SC.nil K (rL Xa) v_0 a_0) K (rV Xa) v8 a7) K (rP2 (rV (rV Xa)) (rV (rP2 Xa Xa))) x40 g41)}:Jn (((List (List Int))×(List (Int×Int)))) (V))) (YW (Fd:=FNd ({oo:=λx40=>[],ss:=λx40=>[some v_0,some x40,some v8,none,none,none,none,none,none,none],sc:=λg41 x40=>(SC.add (SC.add (SC.add SC.nil K (rL Xa) v_0 a_0) K (rV Xa) v8 a7) K (rP2 (rV (rV Xa)) (rV (rP2 Xa Xa))) x40 g41)}:Jn (((List (List Int))×(List (Int×Int)))) (V))) (Xl (K:=K) (YS (Xr (Xc (r:=(rV Xa)) 2 rfl (λ_ s=>s.r)) (Xe 0)) (Xe 0))) (XH (K:=K) (r:=(rP2 (rV (rV Xa)) (rV (rP2 Xa Xa)))) 1 (Ev.sh (XS (Ev.toB (ZZ (Xc (r:=(rL Xa)) 0 rfl (λ_ s=>s.l.l.r)) (Xe 2) (Ev.toB (Z1 (Xm (EvB.sh (Xe 5)) (Xm (EvB.sh (Xe 8)) (Xm (EvB.sh (Xe 3)) X9))))))))) λa42 v43=>(Xx (J:=_) (v43) (a42) rfl rfl (λ_ s=>(SC.i (SC.i (SC.i SC.t s.l.l.l.r) s.l.r) s.r)))) (Xx (J:=_) (v2) (a1) rfl rfl (λ_ s=>(SC.i (SC.i (SC.i SC.t s.l.l.r) s.r) s.l.r)))) λg58 x57=>(XH (K:=K) (r:=(rP2 (rV (rV Xa)) (rV (rP2 Xa Xa)))) 3 (Ev.sh (XS (Xc (r:=(rP2 (rV (rV Xa)) (rV (rP2 Xa Xa)))) 1 rfl (λ_ s=>s.r)))) λa59 v60=>(Zu (K:=K) (J:=({oo:=λx66=>[],ss:=λx66=>[some v_0,some x57,some v8,some x66.2.2,x66.1,x66.2.1,none,none,none,none],sc:=λg67 x66=>(SC.add (SC.add (SC.add (SC.add SC.nil K (rL Xa) v_0 a_0) K (rV Xa) v8 a7) K (rP2 (rV (rV Xa)) (rV (rP2 Xa Xa))) x57 g58) K (rP2 (rV (rV Xa)) (rV (rP2 Xa Xa))) x66.2.2 g67)}:Jn (((List (List Int))×(List (Int×Int)))) (Option V×Option V×V))) (λ_=>tg1 4) ((none),(none),v60) (a59) (XO (Xr (Xc (r:=(rV Xa)) 2 rfl (λ_ s=>s.l.l.r)) (Xe 1))) rfl rfl (λ_ s=>s) (λg68 x69 a70 v71=>(XH (K:=K) (r:=(rV Xa)) 5 (Ev.sh (Ul (EvS.ls (Xz (r:=(rV Xa)) 2 rfl (λ_ s=>s.l.l.l.r))) (Qb (K:=K) (XJ (X3 (Xe 6) (Xc (r:=Xa) 4 rfl (λ_ s=>s.r))) (Xe 2))) (Qb (K:=K) (XJ (X3 (Xe 6) (Xc (r:=Xa) 4 rfl (λ_ s=>s.r))) (Xe 8))))) λa72 v73=>(Yt (J:=({oo:=λx92=>[],ss:=λx92=>[some v_0,some x57,some v8,some x92,some v71,some v73,none,none,none,none],sc:=λg93 x92=>(SC.add (SC.add (SC.add (SC.add (SC.add (SC.add SC.nil K (rL Xa) v_0 a_0) K (rV Xa) v8 a7) K (rP2 (rV (rV Xa)) (rV (rP2 Xa Xa))) x57 g58) K Xa v71 a70) K (rV Xa) v73 a72) K (rP2 (rV (rV Xa)) (rV (rP2 Xa Xa))) x92 g93)}:Jn (((List (List Int))×(List (Int×Int)))) (V))) (YW (Fd:=FNd ({oo:=λx92=>[],ss:=λx92=>[some v_0,some x57,some v8,some x92,some v71,some v73,none,none,none,none],sc:=λg93 x92=>(SC.add (SC.add (SC.add (SC.add (SC.add (SC.add SC.nil K (rL Xa) v_0 a_0) K (rV Xa) v8 a7) K (rP2 (rV (rV Xa)) (rV (rP2 Xa Xa))) x57 g58) K Xa v71 a70) K (rV Xa) v73 a72) K (rP2 (rV (rV Xa)) (rV (rP2 Xa Xa))) x92 g93)}:Jn (((List (List Int))×(List (Int×Int)))) (V))) (Xl (K:=K) (YS (Xr (Xc (r:=(rV Xa)) 5 rfl (λ_ s=>s.r)) (Xe 5)) (Xe 0))) (XH (K:=K) (r:=(rP2 (rV (rV Xa)) (rV (rP2 Xa Xa)))) 3 (Ev.sh (Y9 (Xc (r:=(rP2 (rV (rV Xa)) (rV (rP2 Xa Xa)))) 3 rfl (λ_ s=>s.l.l.r)) (Xc (r:=(rV Xa)) 5 rfl (λ_ s=>s.r)))) λa94 v95=>(Xx (J:=_) (v95) (a94) rfl rfl (λ_ s=>(SC.i (SC.i (SC.i s.l.l.l.l s.l.l.r) s.l.r) s.r)))) (XH (K:=K) (r:=(rP2 (rV (rV Xa)) (rV (rP2 Xa Xa)))) 3 (Ev.sh (Y9 (Xc (r:=(rP2 (rV (rV Xa)) (rV (rP2 Xa Xa)))) 3 rfl (λ_ s=>s.l.l.r)) (Xc (r:=(rV Xa)) 5 rfl (λ_ s=>s.r)))) λa99 v100=>(Xx (J:=_) (v100) (a99) rfl rfl (λ_ s=>(SC.i (SC.i (SC.i s.l.l.l.l s.l.l.r) s.l.r) s.r))))) λg105 x104=>(Xx (J:=_) ((some v71),(some v73),x104) (g105) rfl rfl (λ_ s=>(SC.i s.l.l.l s.r)))))) λg106 x107=>(XH (K:=K) (r:=(Y0 (rPL (rEi Yu Xa)))) 6 (EvB.sh (Ev.toB (XS (Xc (r:=(rP2 (rV (rV Xa)) (rV (rP2 Xa Xa)))) 3 rfl (λ_ s=>s.r))))) λa108 v109=>(XH (K:=K) (r:=(rP2 (rV (rV Xa)) (rV (rP2 Xa Xa)))) 7 (Ev.sh (XS (Xc (r:=(rP2 (rV (rV Xa)) (rV (rP2 Xa Xa)))) 3 rfl (λ_ s=>s.l.r)))) λa112 v113=>(YG (Y4 (YD (Zo (K:=K) (Ev.toB (Y9 (Ev.toB (XS (Xc (r:=(rP2 (rV (rV Xa)) (rV (rP2 Xa Xa)))) 7 rfl (λ_ s=>s.r)))) (Xc (r:=(Y0 (rPL (rEi Yu Xa)))) 6 rfl (λ_ s=>s.l.r)))))) (Xl (K:=K) (JU (Xc (r:=(rP2 (rV (rV Xa)) (rV (rP2 Xa Xa)))) 7 rfl (λ_ s=>s.r)) (Xc (r:=(rP2 (rV (rV Xa)) (rV (rP2 Xa Xa)))) 3 rfl (λ_ s=>s.l.l.r))))) (XD (EvS.ev (EvB.sh (YE false)))) (YG (Xl (K:=K) (QZ (tb:=tC .non) (Xc (r:=(Y0 (rPL (rEi Yu Xa)))) 6 rfl (λ_ s=>s.l.r)))) (XD (XS (Xc (r:=(rP2 (rV (rV Xa)) (rV (rP2 Xa Xa)))) 3 rfl (λ_ s=>s.l.l.r)))) (Gn 8 9 (EvB.sh (Ev.toB (XS (Xc (r:=(rP2 (rV (rV Xa)) (rV (rP2 Xa Xa)))) 7 rfl (λ_ s=>s.r))))) λa131 v132 v133=>(YG (Y4 (YD (Zo (K:=K) (Xc (r:=Xt) 8 rfl (λ_ s=>s.l.r)))) (Y4 (YD (Zo (K:=K) (Ev.toB (Y9 (Xc (r:=(Y0 (rPL (rEi Yu Xa)))) 9 rfl (λ_ s=>s.r)) (Xc (r:=(Y0 (rPL (rEi Yu Xa)))) 6 rfl (λ_ s=>s.l.l.l.r)))))) (Xl (K:=K) (JU (Xc (r:=(rP2 (rV (rV Xa)) (rV (rP2 Xa Xa)))) 7 rfl (λ_ s=>s.l.l.r)) (Xc (r:=(rP2 (rV (rV Xa)) (rV (rP2 Xa Xa)))) 3 rfl (λ_ s=>s.l.l.l.l.r)))))) (XD (EvS.ev (EvB.sh (YE false)))) (YG (Xl (K:=K) (Gx (tb:=tC .non) (Ev.toB (XS (Xc (r:=(rP2 (rV (rV Xa)) (rV (rP2 Xa Xa)))) 1 rfl (λ_ s=>s.l.l.l.l.l.r)))))) (XD (EvS.ev (EvB.sh (YE true)))) (XD (XS (Xc (r:=(rP2 (rV (rV Xa)) (rV (rP2 Xa Xa)))) 1 rfl (λ_ s=>s.l.l.l.l.l.r))))))))))))))))
end
theorem Cb {K:PySem.W.Frag}{mg:Str->Option Value}{h:Heap}(X:K.In h)(G:h.Ns mainGlobals mg){x p0:Str}{st:Stmt}{f:Addr}{oc:Value}{od an:Option Addr}{osl:Array (Option Value)}{kV doc pm cdv ct:Value}(hb:∀(kV doc pm:Value) (an:Option Addr) (cdv ct u0:Value),bindArgs (PySem.W.fnOf x x (YH st) (Yi st) (Xk st) .none kV doc pm an cdv ct) ⟨[u0],[]⟩=pure ([p0].zip [u0]))(a:PySem.W.nsIn K mainGlobals x=some (some (.ref f)))(l:K.lookup f=some ⟨oc,od, .func (PySem.W.fnOf x x (YH st) (Yi st) (Xk st) .none kV doc pm an cdv ct),osl⟩)(c:PySem.W.codeIn K cdv x=true)(k:PySem.W.keepIn K (.ref f)=true):Def K mg x st [p0]:=⟨f,_,Qm l c k,(Qm l c k).binds λ_ _ _ _ _ _ us hl=>(by obtain⟨_,rfl⟩:=Ih hl;exact hb ..),PySem.W.mg_of X G a⟩
theorem Bv {K:PySem.W.Frag}{mg:Str->Option Value}{h:Heap}(X:K.In h)(G:h.Ns mainGlobals mg){x p0 p1:Str}{st:Stmt}{f:Addr}{oc:Value}{od an:Option Addr}{osl:Array (Option Value)}{kV doc pm cdv ct:Value}(hb:∀(kV doc pm:Value) (an:Option Addr) (cdv ct u0 u1:Value),bindArgs (PySem.W.fnOf x x (YH st) (Yi st) (Xk st) .none kV doc pm an cdv ct) ⟨[u0,u1],[]⟩=pure ([p0,p1].zip [u0,u1]))(a:PySem.W.nsIn K mainGlobals x=some (some (.ref f)))(l:K.lookup f=some ⟨oc,od, .func (PySem.W.fnOf x x (YH st) (Yi st) (Xk st) .none kV doc pm an cdv ct),osl⟩)(c:PySem.W.codeIn K cdv x=true)(k:PySem.W.keepIn K (.ref f)=true):Def K mg x st [p0,p1]:=⟨f,_,Qm l c k,(Qm l c k).binds λ_ _ _ _ _ _ us hl=>(by obtain⟨_,_,rfl⟩:=En hl;exact hb ..),PySem.W.mg_of X G a⟩
theorem HC {K:PySem.W.Frag}{mg:Str->Option Value}{h:Heap}(X:K.In h)(G:h.Ns mainGlobals mg){x p0 p1 p2:Str}{st:Stmt}{f:Addr}{oc:Value}{od an:Option Addr}{osl:Array (Option Value)}{kV doc pm cdv ct:Value}(hb:∀(kV doc pm:Value) (an:Option Addr) (cdv ct u0 u1 u2:Value),bindArgs (PySem.W.fnOf x x (YH st) (Yi st) (Xk st) .none kV doc pm an cdv ct) ⟨[u0,u1,u2],[]⟩=pure ([p0,p1,p2].zip [u0,u1,u2]))(a:PySem.W.nsIn K mainGlobals x=some (some (.ref f)))(l:K.lookup f=some ⟨oc,od, .func (PySem.W.fnOf x x (YH st) (Yi st) (Xk st) .none kV doc pm an cdv ct),osl⟩)(c:PySem.W.codeIn K cdv x=true)(k:PySem.W.keepIn K (.ref f)=true):Def K mg x st [p0,p1,p2]:=⟨f,_,Qm l c k,(Qm l c k).binds λ_ _ _ _ _ _ us hl=>(by obtain⟨_,_,_,rfl⟩:=Ie hl;exact hb ..),PySem.W.mg_of X G a⟩
theorem LG {K:PySem.W.Frag}{mg:Str->Option Value}{h:Heap}(X:K.In h)(G:h.Ns mainGlobals mg){x p0 p1 p2 p3:Str}{st:Stmt}{f:Addr}{oc:Value}{od an:Option Addr}{osl:Array (Option Value)}{kV doc pm cdv ct:Value}(hb:∀(kV doc pm:Value) (an:Option Addr) (cdv ct u0 u1 u2 u3:Value),bindArgs (PySem.W.fnOf x x (YH st) (Yi st) (Xk st) .none kV doc pm an cdv ct) ⟨[u0,u1,u2,u3],[]⟩=pure ([p0,p1,p2,p3].zip [u0,u1,u2,u3]))(a:PySem.W.nsIn K mainGlobals x=some (some (.ref f)))(l:K.lookup f=some ⟨oc,od, .func (PySem.W.fnOf x x (YH st) (Yi st) (Xk st) .none kV doc pm an cdv ct),osl⟩)(c:PySem.W.codeIn K cdv x=true)(k:PySem.W.keepIn K (.ref f)=true):Def K mg x st [p0,p1,p2,p3]:=⟨f,_,Qm l c k,(Qm l c k).binds λ_ _ _ _ _ _ us hl=>(by obtain⟨_,_,_,_,rfl⟩:=Lz hl;exact hb ..),PySem.W.mg_of X G a⟩
theorem Ht {l:PySem.W.OpenLaw}{w:World}{K:PySem.W.Frag}{h:Heap}{mg:Str->Option Value}{fa f E0 E1 E2 E3:Addr}{tk0:Tok}{tk1:Tok}{fI1:Addr}{nm1 qn1:Str}{Ns1:Addr}{bs1 sb1:List Value}{sn1:List Str}{ab1:Bool}{co1:Option Bool}{dd1 od1 an1:Option Addr}{ka1 kb1 kc1 ke1 kf1:Option Value}{oc1 kV1 dc1 pm1 cd1 ct1:Value}{sl1:Array (Option Value)}(X:K.In h)(G:h.Ns mainGlobals mg)(hfa:mg "law" =some (.ref fa)){od an:Option Addr}{sl:Array (Option Value)}{oc kV dc pm cd ct:Value}
  (D1:Def K mg "fault" Kr ["drawing"])
  (D2:Def K mg "passages_of" ZX ["walks"])
  (D3:Def K mg "walk_fault" ZC ["walks","signs","standing"])
  (D4:Def K mg "sign_fault" Z7 ["signs","standing"])
  (D5:Def K mg "many_fault" Z5 ["walks","signs"])
  (D6:Def K mg "checked" QM ["drawing"])
  (D7:Def K mg "_law_cell" DS ["_law_script","_law_place"])
  (D8:Def K mg "_law_mix" EH ["_law_cell_here","_law_k"])
  (D9:Def K mg "_law_row" Ec ["_law_script","_law_place","_law_sizes"])
  (D10:Def K mg "_law_mixed" KH ["_law_names","_law_some"])
  (D11:Def K mg "_law_any" Bc ["_law_names","_law_some","_law_rings"])
  (D12:Def K mg "_law_plaited" J9 ["_law_names","_law_signs","_law_some","_law_strands"])
  (D13:Def K mg "_law_drawn" Uq ["_law_script","_law_place","_law_most"])
  (D14:Def K mg "_law_copy" Gf ["_law_drawing"])
  (D15:Def K mg "_law_is_whole" Jm ["_law_one"])
  (D16:Def K mg "_law_is_drawing" Z9 ["_law_found"])
  (D17:Def K mg "_law_large" V1 ["_law_some"])
  (D18:Def K mg "_law_other_passage" Zw ["_law_walks","_law_one","_law_some"])
  (D19:Def K mg "_law_spoilt_walk" Zn ["_law_drawing","_law_some"])
  (D20:Def K mg "_law_spoilt_sign" ZS ["_law_drawing","_law_some"])
  (D21:Def K mg "_law_wrong" Kp ["_law_walks","_law_named","_law_at","_law_place"])
  (D22:Def K mg "_law_due" Cz ["_law_drawing"])
  (D23:Def K mg "_law_same" Di ["_law_found","_law_due_here"])
  (D24:Def K mg "_law_refused" JR ["_law_drawing"])
  (D25:Def K mg "_law_taken" KM ["_law_drawing"])
  (a:PySem.W.nsIn K mainGlobals "law" =some (some (.ref f)))(l0:K.lookup f=some ⟨oc,od, .func (PySem.W.fnOf "law" "law" (YH V0) (Yi V0) (Xk V0) .none kV dc pm an cd ct),sl⟩)(c:PySem.W.codeIn K cd "law" =true)(k:PySem.W.keepIn K (.ref f)=true)
  (z1:PySem.W.nsIn K mainGlobals "ValueError" =some none)
  (z2:PySem.W.nsIn K mainGlobals "abs" =some none)
  (z3:PySem.W.nsIn K mainGlobals "bool" =some none)
  (z4:PySem.W.nsIn K mainGlobals "dict" =some none)
  (z5:PySem.W.nsIn K mainGlobals "enumerate" =some none)
  (z6:PySem.W.nsIn K mainGlobals "int" =some none)
  (z7:PySem.W.nsIn K mainGlobals "isinstance" =some none)
  (z8:PySem.W.nsIn K mainGlobals "len" =some none)
  (z9:PySem.W.nsIn K mainGlobals "list" =some none)
  (z10:PySem.W.nsIn K mainGlobals "max" =some none)
  (z11:PySem.W.nsIn K mainGlobals "min" =some none)
  (z12:PySem.W.nsIn K mainGlobals "range" =some none)
  (z13:PySem.W.nsIn K mainGlobals "str" =some none)
  (z14:PySem.W.nsIn K mainGlobals "tuple" =some none)
  (w0:PySem.W.nsIn K mainGlobals "MOST_CROSSINGS" =some (some (.int 40 tk0)))
  (w1:PySem.W.nsIn K mainGlobals "MOST_WALKS" =some (some (.int 12 tk1)))
  (x0:PySem.W.nsIn K mainGlobals "PlaitError" =some (some (.ref E0)))
  (x1:PySem.W.nsIn K mainGlobals "NotADrawing" =some (some (.ref E1)))
  (x2:PySem.W.nsIn K mainGlobals "NoCrossing" =some (some (.ref E2)))
  (x3:PySem.W.nsIn K mainGlobals "TooBig" =some (some (.ref E3)))
  (yg:PySem.W.specialIn K (.builtin "object.__class__") "__get__" =some (some (.builtin "getset_descriptor.__get__")))
  (yt:PySem.W.takesIn K (.builtin "object.__class__")=some true)
  (ya0:PySem.W.excIn K E0 vEr "ValueError.__new__" =true)
  (yb0:PySem.W.findIn K (.ref E0) "__getattribute__" =some (some (.builtin "BaseException.__getattribute__")))
  (yc0:PySem.W.findIn K (.ref E0) "__getattr__" =some none)
  (yd0:PySem.W.findIn K (.ref E0) "__class__" =some (some (.builtin "object.__class__")))
  (ye0:PySem.W.mroIn K E0 (.type "object")=some true)
  (yf0:PySem.W.isClsIn K E0=true)
  (yh0:PySem.W.mroIn K E0 (.type "BaseException")=some true)
  (yi0:PySem.W.subIn K (.ref E0) (.type "ValueError")=some true)
  (yj0:PySem.W.typeIn K (.ref E0)=some (.type "type"))
  (yk0:PySem.W.subIn K (.ref E0) (.type "BaseException")=some true)
  (yb1:PySem.W.findIn K (.ref E1) "__getattribute__" =some (some (.builtin "BaseException.__getattribute__")))
  (yc1:PySem.W.findIn K (.ref E1) "__getattr__" =some none)
  (yd1:PySem.W.findIn K (.ref E1) "__class__" =some (some (.builtin "object.__class__")))
  (ye1:PySem.W.mroIn K E1 (.type "object")=some true)
  (yf1:PySem.W.isClsIn K E1=true)
  (yh1:PySem.W.mroIn K E1 (.type "BaseException")=some true)
  (yi1:PySem.W.subIn K (.ref E1) (.type "ValueError")=some true)
  (yj1:PySem.W.typeIn K (.ref E1)=some (.type "type"))
  (yk1:PySem.W.subIn K (.ref E1) (.type "BaseException")=some true)
  (ya2:PySem.W.excIn K E2 vEr "ValueError.__new__" =true)
  (yb2:PySem.W.findIn K (.ref E2) "__getattribute__" =some (some (.builtin "BaseException.__getattribute__")))
  (yc2:PySem.W.findIn K (.ref E2) "__getattr__" =some none)
  (yd2:PySem.W.findIn K (.ref E2) "__class__" =some (some (.builtin "object.__class__")))
  (ye2:PySem.W.mroIn K E2 (.type "object")=some true)
  (yf2:PySem.W.isClsIn K E2=true)
  (yh2:PySem.W.mroIn K E2 (.type "BaseException")=some true)
  (yi2:PySem.W.subIn K (.ref E2) (.type "ValueError")=some true)
  (yj2:PySem.W.typeIn K (.ref E2)=some (.type "type"))
  (yk2:PySem.W.subIn K (.ref E2) (.type "BaseException")=some true)
  (ya3:PySem.W.excIn K E3 vEr "ValueError.__new__" =true)
  (yb3:PySem.W.findIn K (.ref E3) "__getattribute__" =some (some (.builtin "BaseException.__getattribute__")))
  (yc3:PySem.W.findIn K (.ref E3) "__getattr__" =some none)
  (yd3:PySem.W.findIn K (.ref E3) "__class__" =some (some (.builtin "object.__class__")))
  (ye3:PySem.W.mroIn K E3 (.type "object")=some true)
  (yf3:PySem.W.isClsIn K E3=true)
  (yh3:PySem.W.mroIn K E3 (.type "BaseException")=some true)
  (yi3:PySem.W.subIn K (.ref E3) (.type "ValueError")=some true)
  (yj3:PySem.W.typeIn K (.ref E3)=some (.type "type"))
  (yk3:PySem.W.subIn K (.ref E3) (.type "BaseException")=some true)
  (yl0_0:PySem.W.subIn K (.ref E0) (.ref E0)=some true)
  (yl0_1:PySem.W.subIn K (.ref E0) (.ref E1)=some false)
  (yl0_2:PySem.W.subIn K (.ref E0) (.ref E2)=some false)
  (yl0_3:PySem.W.subIn K (.ref E0) (.ref E3)=some false)
  (yl1_0:PySem.W.subIn K (.ref E1) (.ref E0)=some true)
  (yl1_1:PySem.W.subIn K (.ref E1) (.ref E1)=some true)
  (yl1_2:PySem.W.subIn K (.ref E1) (.ref E2)=some false)
  (yl1_3:PySem.W.subIn K (.ref E1) (.ref E3)=some false)
  (yl2_0:PySem.W.subIn K (.ref E2) (.ref E0)=some true)
  (yl2_1:PySem.W.subIn K (.ref E2) (.ref E1)=some false)
  (yl2_2:PySem.W.subIn K (.ref E2) (.ref E2)=some true)
  (yl2_3:PySem.W.subIn K (.ref E2) (.ref E3)=some false)
  (yl3_0:PySem.W.subIn K (.ref E3) (.ref E0)=some true)
  (yl3_1:PySem.W.subIn K (.ref E3) (.ref E1)=some false)
  (yl3_2:PySem.W.subIn K (.ref E3) (.ref E2)=some false)
  (yl3_3:PySem.W.subIn K (.ref E3) (.ref E3)=some true)
  (na1:K.lookup E1=some (excClassObj nm1 qn1 E1 Ns1 bs1 (.ref E0::vEr) true sn1 sb1 ab1 co1 dd1 ka1 kb1 kc1 ke1 kf1 "ValueError.__new__"))
  (nb1:PySem.W.findIn K (.ref E1) "__setattr__" =some (some (.builtin "object.__setattr__")))
  (nc1:PySem.W.findIn K (.ref E1) "fault" =some none)
  (nd1:PySem.W.findIn K (.ref E1) "__init__" =some (some (.ref fI1)))
  (ne1:PySem.W.isFn K (.ref fI1)=true)
  (nf1:PySem.W.hasDictIn K E1=true)
  (ng1:K.lookup fI1=some ⟨oc1,od1, .func (PySem.W.fnOf "__init__" "NotADrawing.__init__" (YH HD) (Yi HD) (Xk HD) .none kV1 dc1 pm1 an1 cd1 ct1),sl1⟩)
  (nh1:PySem.W.codeIn K cd1 "NotADrawing.__init__" =true)
  (ni1:PySem.W.keepIn K (.ref fI1)=true)
  :∃fd:FuncData,(∀(s:Shared) (v:Value),BindsTo s fd ⟨[v],[]⟩ [("_law_script",v)])/\∀base:Heap,K.In base->base.Ns mainGlobals mg->FnOk l.prog w K mg base CX0 5 fa fd ["_law_script"] (sp1 (rL Xa) (oF Xt) Kj K):=by
 have e:=hfa.symm.trans (PySem.W.mg_of X G a)
 cases e
 have N:∀{x:Str},PySem.W.nsIn K mainGlobals x=some none->mg x=none:=λz=>PySem.W.mg_none_of X G z
 have pz0:Je "PlaitError" =true:=by decide
 have er0:=Gw yb0 yc0 yd0 ye0 yf0 yh0 yg yt
 have iz0_0:Y6 "PlaitError" "PlaitError" =true:=by decide
 have kx0_0:=Qk yl0_0 yl0_0 yf0 yj0 yk0
 have iz0_1:Y6 "PlaitError" "NotADrawing" =false:=by decide
 have kx0_1:=Qk yl0_0 yl0_1 yf1 yj1 yk1
 have iz0_2:Y6 "PlaitError" "NoCrossing" =false:=by decide
 have kx0_2:=Qk yl0_0 yl0_2 yf2 yj2 yk2
 have iz0_3:Y6 "PlaitError" "TooBig" =false:=by decide
 have kx0_3:=Qk yl0_0 yl0_3 yf3 yj3 yk3
 have pz1:Je "NotADrawing" =false:=by decide
 have er1:=Gw yb1 yc1 yd1 ye1 yf1 yh1 yg yt
 have iz1_0:Y6 "NotADrawing" "PlaitError" =true:=by decide
 have kx1_0:=Qk yl1_1 yl1_0 yf0 yj0 yk0
 have iz1_1:Y6 "NotADrawing" "NotADrawing" =true:=by decide
 have kx1_1:=Qk yl1_1 yl1_1 yf1 yj1 yk1
 have iz1_2:Y6 "NotADrawing" "NoCrossing" =false:=by decide
 have kx1_2:=Qk yl1_1 yl1_2 yf2 yj2 yk2
 have iz1_3:Y6 "NotADrawing" "TooBig" =false:=by decide
 have kx1_3:=Qk yl1_1 yl1_3 yf3 yj3 yk3
 have pz2:Je "NoCrossing" =true:=by decide
 have er2:=Gw yb2 yc2 yd2 ye2 yf2 yh2 yg yt
 have iz2_0:Y6 "NoCrossing" "PlaitError" =true:=by decide
 have kx2_0:=Qk yl2_2 yl2_0 yf0 yj0 yk0
 have iz2_1:Y6 "NoCrossing" "NotADrawing" =false:=by decide
 have kx2_1:=Qk yl2_2 yl2_1 yf1 yj1 yk1
 have iz2_2:Y6 "NoCrossing" "NoCrossing" =true:=by decide
 have kx2_2:=Qk yl2_2 yl2_2 yf2 yj2 yk2
 have iz2_3:Y6 "NoCrossing" "TooBig" =false:=by decide
 have kx2_3:=Qk yl2_2 yl2_3 yf3 yj3 yk3
 have pz3:Je "TooBig" =true:=by decide
 have er3:=Gw yb3 yc3 yd3 ye3 yf3 yh3 yg yt
 have iz3_0:Y6 "TooBig" "PlaitError" =true:=by decide
 have kx3_0:=Qk yl3_3 yl3_0 yf0 yj0 yk0
 have iz3_1:Y6 "TooBig" "NotADrawing" =false:=by decide
 have kx3_1:=Qk yl3_3 yl3_1 yf1 yj1 yk1
 have iz3_2:Y6 "TooBig" "NoCrossing" =false:=by decide
 have kx3_2:=Qk yl3_3 yl3_2 yf2 yj2 yk2
 have iz3_3:Y6 "TooBig" "TooBig" =true:=by decide
 have kx3_3:=Qk yl3_3 yl3_3 yf3 yj3 yk3
 have y0:Eu K [("PlaitError",E0),("NotADrawing",E1),("NoCrossing",E2),("TooBig",E3)]=true:=by
  unfold Eu
  simp only[List.all_cons,List.all_nil,Bool.and_true,Bool.and_self,beq_self_eq_true,Bool.not_true,Bool.not_false,Bool.false_or,Bool.true_or,pz0,ya0,er0,V5 yi0,pz1,er1,V5 yi1,pz2,ya2,er2,V5 yi2,pz3,ya3,er3,V5 yi3,iz0_0,kx0_0.1,kx0_0.2,iz0_1,kx0_1.1,kx0_1.2,iz0_2,kx0_2.1,kx0_2.2,iz0_3,kx0_3.1,kx0_3.2,iz1_0,kx1_0.1,kx1_0.2,iz1_1,kx1_1.1,kx1_1.2,iz1_2,kx1_2.1,kx1_2.2,iz1_3,kx1_3.1,kx1_3.2,iz2_0,kx2_0.1,kx2_0.2,iz2_1,kx2_1.1,kx2_1.2,iz2_2,kx2_2.1,kx2_2.2,iz2_3,kx2_3.1,kx2_3.2,iz3_0,kx3_0.1,kx3_0.2,iz3_1,kx3_1.1,kx3_1.2,iz3_2,kx3_2.1,kx3_2.2,iz3_3,kx3_3.1,kx3_3.2]
 have Y:Ecs XM K mg:=Iy (cs:=[("PlaitError",E0),("NotADrawing",E1),("NoCrossing",E2),("TooBig",E3)]) y0 (λp hp=>by
  simp only[List.mem_cons,List.not_mem_nil,or_false] at hp
  rcases hp with rfl |rfl |rfl |rfl
  ·exact PySem.W.mg_of X G x0
  ·exact PySem.W.mg_of X G x1
  ·exact PySem.W.mg_of X G x2
  ·exact PySem.W.mg_of X G x3)
 have Z:Blt mg:=⟨N z1,N z2,N z3,N z4,N z5,N z6,N z7,N z8,N z9,N z10,N z11,N z12,N z13,N z14,⟨_,PySem.W.mg_of X G w0,_,rfl⟩,⟨_,PySem.W.mg_of X G w1,_,rfl⟩⟩
 have N1:XI K mg "NotADrawing" "fault":=I0 (st:=HD) (PySem.W.mg_of X G x1) na1 ya0 nb1 nc1 nd1 ne1 nf1 ng1 nh1 ni1 Lp (by intros;rfl) (λY _ _ _ _ _ _ _ _ _=>EO (E7 Y (pv 0) (pv 1) rfl))
 refine⟨PySem.W.fnOf "law" "law" (YH V0) (Yi V0) (Xk V0) .none kV dc pm an cd ct,λs v=>.of_eq rfl,λbase _ _=>?_⟩
 have g_cell:=EZ (P:=l.prog) (w:=w) (base:=base) D7 Y N1 Z
 have g_mix:=Hz (P:=l.prog) (w:=w) (base:=base) D8 Y N1 Z
 have g_row:=HK (P:=l.prog) (w:=w) (base:=base) D9 g_cell g_mix Y N1 Z
 have g_plaited:=GV (P:=l.prog) (w:=w) (base:=base) D12 Y N1 Z
 have g_any:=HS (P:=l.prog) (w:=w) (base:=base) D11 Y N1 Z
 have g_mixed:=Ck (P:=l.prog) (w:=w) (base:=base) D10 Y N1 Z
 have g_drawn:=CB (P:=l.prog) (w:=w) (base:=base) D13 g_row g_plaited g_any g_mixed Y N1 Z
 have g_copy:=Ea (P:=l.prog) (w:=w) (base:=base) D14 Y N1 Z
 have g_wrong:=C5 (P:=l.prog) (w:=w) (base:=base) D21 Y N1 Z
 have g_due:=HY (P:=l.prog) (w:=w) (base:=base) D22 g_wrong Y N1 Z
 have g_passages_of:=Vs (P:=l.prog) (w:=w) (base:=base) D2 Y N1 Z
 have g_walk_fault:=V6 (P:=l.prog) (w:=w) (base:=base) D3 Y N1 Z
 have g_sign_fault:=Ud (P:=l.prog) (w:=w) (base:=base) D4 Y N1 Z
 have g_many_fault:=Ua (P:=l.prog) (w:=w) (base:=base) D5 Y N1 Z
 have g_fault:=CW (P:=l.prog) (w:=w) (base:=base) D1 g_passages_of g_walk_fault g_sign_fault g_many_fault Y N1 Z
 have g_checked:=GU (P:=l.prog) (w:=w) (base:=base) D6 g_fault Y N1 Z
 have g_refused:=GQ (P:=l.prog) (w:=w) (base:=base) D24 g_checked Y N1 Z
 have g_is_whole:=KJ (P:=l.prog) (w:=w) (base:=base) D15 Y N1 Z
 have g_is_drawing:=Uy (P:=l.prog) (w:=w) (base:=base) D16 g_is_whole Y N1 Z
 have g_taken:=Cg (P:=l.prog) (w:=w) (base:=base) D25 g_copy g_checked g_is_drawing g_fault Y N1 Z
 have g_large:=Bl (P:=l.prog) (w:=w) (base:=base) D17 Y N1 Z
 have g_spoilt_sign:=Vv (P:=l.prog) (w:=w) (base:=base) D20 g_copy Y N1 Z
 have g_other_passage:=Jx (P:=l.prog) (w:=w) (base:=base) D18 Y N1 Z
 have g_spoilt_walk:=VA (P:=l.prog) (w:=w) (base:=base) D19 g_copy g_other_passage Y N1 Z
 have g_same:=E4 (P:=l.prog) (w:=w) (base:=base) D23 g_is_whole Y N1 Z
 exact Hy (P:=l.prog) (w:=w) (base:=base) (Qm (st:=V0) l0 c k) g_drawn g_row g_copy g_due g_refused g_taken g_large g_spoilt_sign g_spoilt_walk g_same g_fault Y N1 Z
theorem LZ {l:PySem.W.OpenLaw}{q:Program}{loose:List Str}{XP:(Str->Option Value)->Heap->Prop}{YP:World->Heap->Prop}{d:DefRec}{K:Params->PySem.W.Frag}(hn:l.most=some 63)(hdf:d.params.defaults=[])
  (hY:∀(w:World) (h:Heap),YP w h->(K w.params).In h)
  (F:∀(w:World) (mg:Str->Option Value) (fa:Addr) (h:Heap),(K w.params).In h->h.Ns mainGlobals mg->mg d.name=some (.ref fa)->
   ∃fd:FuncData,(∀(s:Shared) (u:Value),BindsTo s fd ⟨[u],[]⟩ [("_law_script",u)])/\∀base:Heap,(K w.params).In base->base.Ns mainGlobals mg->FnOk l.prog w (K w.params) mg base CX0 5 fa fd ["_law_script"] (sp1 (rL Xa) (oF Xt) Kj (K w.params))):
  PySem.W.WalkO q loose XP YP l.row.toRowW d [] (λf vs=>PySem.call f vs):=
 L2.Ek (n:=63) (k:=5) (x:="_law_script") (CX:=λ_=>CX0) (sp:=λw=>sp1 (rL Xa) (oF Xt) Kj (K w.params)) hn (by decide) hdf ⟨rfl,by decide,by decide⟩ hY F (λ_ _ a ns hl _ hS=>⟨.ref a,ns,true,rfl,⟨a,_,rfl,hS,Ky ns⟩,C0 ns hl,λv C H' w m ho=>ho.2⟩) λ_ _ _ _ _ z=>z
end My
open PySem PySem.W PyProof.Rows
set_option maxRecDepth 100000 in
set_option maxHeartbeats 0 in
theorem PySem.Challenge.cw_plait_k11_first_fault_holds : PySem.Challenge.rw_plait_k11_first_fault.Holds := by
  w_on; o_law; k_head; (case hw => w_witness2)
  k_fill
  refine My.LZ (l := PySem.Challenge.rw_plait_k11_first_fault) rfl rfl (fun w h Y => PySem.W.kIn_of Y) ?F
  case F =>
    intro w mg fa h KX G hmg
    refine' My.Ht KX G hmg (My.Cb KX G (by intros; rfl) ?a1 ?l1 ?c1 ?k1) (My.Cb KX G (by intros; rfl) ?a2 ?l2 ?c2 ?k2) (My.HC KX G (by intros; rfl) ?a3 ?l3 ?c3 ?k3) (My.Bv KX G (by intros; rfl) ?a4 ?l4 ?c4 ?k4) (My.Bv KX G (by intros; rfl) ?a5 ?l5 ?c5 ?k5) (My.Cb KX G (by intros; rfl) ?a6 ?l6 ?c6 ?k6) (My.Bv KX G (by intros; rfl) ?a7 ?l7 ?c7 ?k7) (My.Bv KX G (by intros; rfl) ?a8 ?l8 ?c8 ?k8) (My.HC KX G (by intros; rfl) ?a9 ?l9 ?c9 ?k9) (My.Bv KX G (by intros; rfl) ?a10 ?l10 ?c10 ?k10) (My.HC KX G (by intros; rfl) ?a11 ?l11 ?c11 ?k11) (My.LG KX G (by intros; rfl) ?a12 ?l12 ?c12 ?k12) (My.HC KX G (by intros; rfl) ?a13 ?l13 ?c13 ?k13) (My.Cb KX G (by intros; rfl) ?a14 ?l14 ?c14 ?k14) (My.Cb KX G (by intros; rfl) ?a15 ?l15 ?c15 ?k15) (My.Cb KX G (by intros; rfl) ?a16 ?l16 ?c16 ?k16) (My.Cb KX G (by intros; rfl) ?a17 ?l17 ?c17 ?k17) (My.HC KX G (by intros; rfl) ?a18 ?l18 ?c18 ?k18) (My.Bv KX G (by intros; rfl) ?a19 ?l19 ?c19 ?k19) (My.Bv KX G (by intros; rfl) ?a20 ?l20 ?c20 ?k20) (My.LG KX G (by intros; rfl) ?a21 ?l21 ?c21 ?k21) (My.Cb KX G (by intros; rfl) ?a22 ?l22 ?c22 ?k22) (My.Bv KX G (by intros; rfl) ?a23 ?l23 ?c23 ?k23) (My.Cb KX G (by intros; rfl) ?a24 ?l24 ?c24 ?k24) (My.Cb KX G (by intros; rfl) ?a25 ?l25 ?c25 ?k25) ?a26 ?l26 ?c26 ?k26 ?z1 ?z2 ?z3 ?z4 ?z5 ?z6 ?z7 ?z8 ?z9 ?z10 ?z11 ?z12 ?z13 ?z14 ?w0 ?w1 ?x0 ?x1 ?x2 ?x3 ?yg ?yt ?ya0 ?yb0 ?yc0 ?yd0 ?ye0 ?yf0 ?yh0 ?yi0 ?yj0 ?yk0 ?yb1 ?yc1 ?yd1 ?ye1 ?yf1 ?yh1 ?yi1 ?yj1 ?yk1 ?ya2 ?yb2 ?yc2 ?yd2 ?ye2 ?yf2 ?yh2 ?yi2 ?yj2 ?yk2 ?ya3 ?yb3 ?yc3 ?yd3 ?ye3 ?yf3 ?yh3 ?yi3 ?yj3 ?yk3 ?yl0_0 ?yl0_1 ?yl0_2 ?yl0_3 ?yl1_0 ?yl1_1 ?yl1_2 ?yl1_3 ?yl2_0 ?yl2_1 ?yl2_2 ?yl2_3 ?yl3_0 ?yl3_1 ?yl3_2 ?yl3_3 ?na1 ?nb1 ?nc1 ?nd1 ?ne1 ?nf1 ?ng1 ?nh1 ?ni1
    (case a1 => k_is); (case l1 => k_is); (case c1 => k_is); (case k1 => k_is); (case a2 => k_is); (case l2 => k_is); (case c2 => k_is); (case k2 => k_is); (case a3 => k_is); (case l3 => k_is); (case c3 => k_is); (case k3 => k_is); (case a4 => k_is); (case l4 => k_is); (case c4 => k_is); (case k4 => k_is); (case a5 => k_is); (case l5 => k_is); (case c5 => k_is); (case k5 => k_is); (case a6 => k_is); (case l6 => k_is); (case c6 => k_is); (case k6 => k_is); (case a7 => k_is); (case l7 => k_is); (case c7 => k_is); (case k7 => k_is); (case a8 => k_is); (case l8 => k_is); (case c8 => k_is); (case k8 => k_is); (case a9 => k_is); (case l9 => k_is); (case c9 => k_is); (case k9 => k_is); (case a10 => k_is); (case l10 => k_is); (case c10 => k_is); (case k10 => k_is); (case a11 => k_is); (case l11 => k_is); (case c11 => k_is); (case k11 => k_is); (case a12 => k_is); (case l12 => k_is); (case c12 => k_is); (case k12 => k_is); (case a13 => k_is); (case l13 => k_is); (case c13 => k_is); (case k13 => k_is); (case a14 => k_is); (case l14 => k_is); (case c14 => k_is); (case k14 => k_is); (case a15 => k_is); (case l15 => k_is); (case c15 => k_is); (case k15 => k_is); (case a16 => k_is); (case l16 => k_is); (case c16 => k_is); (case k16 => k_is); (case a17 => k_is); (case l17 => k_is); (case c17 => k_is); (case k17 => k_is); (case a18 => k_is); (case l18 => k_is); (case c18 => k_is); (case k18 => k_is); (case a19 => k_is); (case l19 => k_is); (case c19 => k_is); (case k19 => k_is); (case a20 => k_is); (case l20 => k_is); (case c20 => k_is); (case k20 => k_is); (case a21 => k_is); (case l21 => k_is); (case c21 => k_is); (case k21 => k_is); (case a22 => k_is); (case l22 => k_is); (case c22 => k_is); (case k22 => k_is); (case a23 => k_is); (case l23 => k_is); (case c23 => k_is); (case k23 => k_is); (case a24 => k_is); (case l24 => k_is); (case c24 => k_is); (case k24 => k_is); (case a25 => k_is); (case l25 => k_is); (case c25 => k_is); (case k25 => k_is); (case a26 => k_is); (case l26 => k_is); (case c26 => k_is); (case k26 => k_is); (case z1 => k_is); (case z2 => k_is); (case z3 => k_is); (case z4 => k_is); (case z5 => k_is); (case z6 => k_is); (case z7 => k_is); (case z8 => k_is); (case z9 => k_is); (case z10 => k_is); (case z11 => k_is); (case z12 => k_is); (case z13 => k_is); (case z14 => k_is); (case w0 => k_is); (case w1 => k_is); (case x0 => k_is); (case x1 => k_is); (case x2 => k_is); (case x3 => k_is); (case yg => k_is); (case yt => k_is); (case ya0 => k_exc); (case yb0 => k_is); (case yc0 => k_is); (case yd0 => k_is); (case ye0 => k_is); (case yf0 => k_is); (case yh0 => k_is); (case yi0 => k_is); (case yj0 => k_is); (case yk0 => k_is); (case yb1 => k_is); (case yc1 => k_is); (case yd1 => k_is); (case ye1 => k_is); (case yf1 => k_is); (case yh1 => k_is); (case yi1 => k_is); (case yj1 => k_is); (case yk1 => k_is); (case ya2 => k_exc); (case yb2 => k_is); (case yc2 => k_is); (case yd2 => k_is); (case ye2 => k_is); (case yf2 => k_is); (case yh2 => k_is); (case yi2 => k_is); (case yj2 => k_is); (case yk2 => k_is); (case ya3 => k_exc); (case yb3 => k_is); (case yc3 => k_is); (case yd3 => k_is); (case ye3 => k_is); (case yf3 => k_is); (case yh3 => k_is); (case yi3 => k_is); (case yj3 => k_is); (case yk3 => k_is); (case yl0_0 => k_is); (case yl0_1 => k_is); (case yl0_2 => k_is); (case yl0_3 => k_is); (case yl1_0 => k_is); (case yl1_1 => k_is); (case yl1_2 => k_is); (case yl1_3 => k_is); (case yl2_0 => k_is); (case yl2_1 => k_is); (case yl2_2 => k_is); (case yl2_3 => k_is); (case yl3_0 => k_is); (case yl3_1 => k_is); (case yl3_2 => k_is); (case yl3_3 => k_is); (case na1 => k_is); (case nb1 => k_is); (case nc1 => k_is); (case nd1 => k_is); (case ne1 => k_is); (case nf1 => k_is); (case ng1 => k_is); (case nh1 => k_is); (case ni1 => k_is)
