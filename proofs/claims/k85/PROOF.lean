import PyProof.Rows.All
import Wide.All
import OpenK.AllK
import Wide.FinOn
import Lean
import PyProof.EqAt
import PyProof.EqKinds
import PyProof.TupleCall
import PySem.Challenge.RW_plait_k85_whole_words_of_plaits
set_option Elab.async false
set_option linter.all false
set_option maxRecDepth 100000
set_option maxHeartbeats 4000000
namespace L2
open PySem PySem.Spec PyProof.Rows
noncomputable abbrev Key:=Sum Int Str
noncomputable def UA:Key->Value->Bool
 | .inl k,v=>Value.isInt k v
 | .inr x,v=>Value.isStrOf x v
noncomputable def MO (w:World):Key->Int
 | .inl k=>hashInt k
 | .inr x=>hashStr w x
theorem Yd:∀{k:Key}{v:Value},UA k v=true->(∃i t,k=Sum.inl i/\v=Value.int i t)∨(∃x t,k=Sum.inr x/\v=Value.str x t)
 | .inl i,v,h=>by
  obtain⟨t,e⟩:=Value.isInt_shape (k:=i) (v:=v) h
  exact .inl ⟨i,t,rfl,e⟩
 | .inr x,v,h=>by
  obtain⟨t,e⟩:=Value.isStrOf_shape (x:=x) (v:=v) h
  exact .inr ⟨x,t,rfl,e⟩
theorem DF (i:Int)(t:Tok):UA (.inl i) (.int i t)=true:=by simp[UA,Value.isInt]
theorem CD (x:Str)(t:Tok):UA (.inr x) (.str x t)=true:=by simp[UA,Value.isStrOf]
theorem IJ (a b:Int):decide ((Sum.inl a:Key)=Sum.inl b)=(a==b):=by
 by_cases e:a=b
 ·subst e;simp
 ·have h:¬(Sum.inl a:Key)=Sum.inl b:=λq=>e (Sum.inl.inj q)
  rw[decide_eq_false h]
  exact(beq_eq_false_iff_ne.mpr e).symm
theorem IM (a b:Str):decide ((Sum.inr a:Key)=Sum.inr b)=decide (a=b):=by
 by_cases e:a=b
 ·subst e;simp
 ·have h:¬(Sum.inr a:Key)=Sum.inr b:=λq=>e (Sum.inr.inj q)
  rw[decide_eq_false h,decide_eq_false e]
theorem HV (a:Int)(b:Str):decide ((Sum.inl a:Key)=Sum.inr b)=false:=decide_eq_false (λq=>nomatch q)
theorem Le (a:Str)(b:Int):decide ((Sum.inr a:Key)=Sum.inl b)=false:=decide_eq_false (λq=>nomatch q)
noncomputable def X8 (prog:Program)(w:World):PySem.KeyKind prog w Key where
 is:=UA
 hash:=MO w
 inj:=λv a b ha hb=>by
  rcases Yd ha with⟨i,t,rfl,rfl⟩ | ⟨x,t,rfl,rfl⟩
  ·rcases Yd hb with⟨j,u,rfl,e⟩ | ⟨y,u,rfl,e⟩
   ·injection e with e1 _;rw[e1]
   ·exact nomatch e
  ·rcases Yd hb with⟨j,u,rfl,e⟩ | ⟨y,u,rfl,e⟩
   ·exact nomatch e
   ·injection e with e1 _;rw[e1]
 byValue:=λk v h=>by
  rcases Yd h with⟨i,t,rfl,rfl⟩ | ⟨x,t,rfl,rfl⟩<;> rfl
 pyHash:=λhv h=>by
  rcases Yd hv with⟨i,t,rfl,rfl⟩ | ⟨x,t,rfl,rfl⟩
  ·exact wpAny_pyHash_int h
  ·exact wpAny_pyHash_str h
 eqBool:=λhu hv h=>by
  rcases Yd hu with⟨i,t,rfl,rfl⟩ | ⟨x,t,rfl,rfl⟩
  ·rcases Yd hv with⟨j,u,rfl,rfl⟩ | ⟨y,u,rfl,rfl⟩
   ·rw[IJ] at h;exact wpAny_eqBool_int h
   ·rw[HV] at h;exact SeqAt.EqAt.int_str i t y u _ _ _ _ h
  ·rcases Yd hv with⟨j,u,rfl,rfl⟩ | ⟨y,u,rfl,rfl⟩
   ·rw[Le] at h;exact SeqAt.EqAt.str_int x t j u _ _ _ _ h
   ·rw[IM] at h;exact wpAny_eqBool_str h
 «strs»:=λk x t v h=>by
  rcases Yd h with⟨i,u,rfl,e⟩ | ⟨y,u,rfl,e⟩
  ·exact nomatch e
  ·injection e with e1 _
   subst e1
   cases v<;> rfl
theorem KN (prog:Program)(w:World)(i:Int)(t:Tok):(X8 prog w).is (.inl i) (.int i t)=true:=DF i t
theorem KI (prog:Program)(w:World)(x:Str)(t:Tok):(X8 prog w).is (.inr x) (.str x t)=true:=CD x t
inductive V where
 |non |bl (b:Bool) |int (i:Int) |str (x:Str) |byt (b:Array UInt8) |flt (b:UInt64) |ref (a:Addr) |ty (n:String)
 deriving DecidableEq
noncomputable def Yc:V->Value->Prop
 | .non,u=>u=Value.none
 | .bl b,u=>u=Value.bool b
 | .int i,u=>∃ t,u=Value.int i t
 | .str x,u=>∃ t,u=Value.str x t
 | .byt b,u=>∃ t,u=Value.bytes b t
 | .flt b,u=>∃ t,u=Value.float b t
 | .ref a,u=>u=Value.ref a
 | .ty n,u=>u=Value.type n
noncomputable abbrev Yl:List V->List Value->Prop:=Paired Yc
theorem Yl.length {xs:List V}{us:List Value}(r:Yl xs us):xs.length=us.length:=Paired.length r
theorem Yl.get:∀{xs:List V}{us:List Value}{i:Nat}{x:V},Yl xs us->xs[i]?=some x->∃u,us[i]?=some u/\Yc x u
 |_,_,_,_, .nil,e=>by simp at e
 |_,_,0,_, .cons r _,e=>by simp at e;subst e;exact⟨_,rfl,r⟩
 |_,_,i+1,x, .cons _ t,e=>by
  obtain⟨u,h1,h2⟩:=Yl.get (i:=i) (x:=x) t (by simpa using e)
  exact⟨u,by simpa using h1,h2⟩
theorem Yl.set {x:V}{u:Value}(r:Yc x u):∀{xs:List V}{us:List Value} (i:Nat),Yl xs us->Yl (xs.set i x) (us.set i u)
 |_,_,_, .nil=>.nil
 |_,_,0, .cons _ t=>.cons r t
 |_,_,i+1, .cons q t=>.cons q (Yl.set r i t)
theorem Yl.append:∀{xs ys:List V}{us ws:List Value},Yl xs us->Yl ys ws->Yl (xs++ys) (us++ws):=λp s=>by
 induction p with
 |nil=>exact s
 |cons r _ ih=>exact .cons r ih
theorem Yl.take:∀{xs:List V}{us:List Value} (n:Nat),Yl xs us->Yl (xs.take n) (us.take n)
 |_,_,0,_=>.nil
 |_,_,_+1, .nil=>.nil
 |_,_,n+1, .cons r t=>.cons r (Yl.take n t)
theorem Yl.drop:∀{xs:List V}{us:List Value} (n:Nat),Yl xs us->Yl (xs.drop n) (us.drop n)
 |_,_,0,r=>r
 |_,_,_+1, .nil=>.nil
 |_,_,n+1, .cons _ t=>Yl.drop n t
noncomputable def BQ:Option V->Option Value->Prop
 |some v,some u=>Yc v u
 |none,none=>True
 |_,_=>False
noncomputable def KV {κ:Type}:List (κ×V)->List (κ×Value)->Prop:=Paired λ(p:κ×V) (q:κ×Value)=>p.1=q.1/\Yc p.2 q.2
noncomputable def kV:Key->V
 | .inl i=>.int i
 | .inr x=>.str x
inductive HO where
 /-- a list -/
 |lst (xs:List V)
 /-- a tuple (never changes) -/
 |tup (xs:List V)
 /-- a dict whose keys are ints and texts; one whose keys are tuples of ints and texts (the empty one is both) -/
 |dK (kvs:List (Key×V)) |dT (kvs:List (List Key×V))
 /-- a set of ints: its members, its size -/
 |set (S:Int->Bool) (n:Nat)
 /-- an instance of the class at C, its dict at dx, its attributes -/
 |ins (C dx:Addr) (fs:List (Str×V))
 /-- the dict of the instance at x -/
 |own (x:Addr)
 /-- the dict of an exception -/
 |xd (fs:List (Str×V))
 /-- a bound method, f of x -/
 |met (f x:Addr)
 /-- a range object lo, lo + 1, .. below hi -/
 |rng (lo hi:Int)
 /-- a thing that is known to the object (the script; a dict while a loop walks it): read, never written while it is so -/
 |frz (o:Obj) (u:HO)
 /-- a code object's table -/
 |tbl (ps:Array Value)
 /-- any other thing, by what is true of its one object (a def of one's own: SetO a S n:=HO.ext λh=>..) -/
 |ext (φ:Heap->Prop)
noncomputable abbrev Hp:=Addr->Option HO
noncomputable def upd (H:Hp)(a:Addr)(o:HO):Hp:=λb=>if b=a then some o else H b
theorem Yr {H:Hp}{a:Addr}{o:HO}:upd H a o a=some o:=by unfold upd;rw[if_pos rfl]
theorem Xs {H:Hp}{a b:Addr}{o:HO}(h:b≠a):upd H a o b=H b:=by unfold upd;rw[if_neg h]
theorem C4 {H:Hp}{a b:Addr}{o u:HO}(h:H a=some o)(h':H b=some u)(d:o≠u):a≠b:=by
 intro e;subst e;rw[h] at h';exact d (Option.some.inj h')
theorem XR {H:Hp}{a b:Addr}{o:HO}(h:H a=some o)(h':H b=none):a≠b:=by
 intro e;subst e;rw[h] at h';cases h'
noncomputable def Km (h:Heap)(a:Addr)(items:Array Value):Prop:=∃ o,h.get? a=some o/\(o.cls= .type "tuple" /\o.dict=none)/\∃n,o.data= .seq items n
theorem Km.t {h:Heap}{a:Addr}{items:Array Value}(x:Km h a items):IsTup h a items:=let ⟨o,ho,c,r⟩:=x;⟨o,ho,c.1,r⟩
theorem Km.new (h:Heap)(items:Array Value):Km (h.push {cls:=.type "tuple",data:=.seq items}) h.objs.size items:=⟨_,Heap.get?_push_size _ rfl,⟨rfl,rfl⟩,_,rfl⟩
section
variable (P:Program)(w:World)
noncomputable def YH (H:Hp)(h:Heap)(a:Addr):HO->Prop
 | .lst xs=>xs.length<=sizeLine/\∃(its:List Value) (n:Nat),Yl xs its/\h.get? a=some {cls:=.type "list",data:=.seq its.toArray n}
 | .tup xs=>xs.length<=sizeLine/\∃its:List Value,Yl xs its/\Km h a its.toArray
 | .dK kvs=>kvs.length<=sizeLine/\(a==sysModules)=false/\∃vs,KV kvs vs/\h.DictOf (X8 P w) a vs
 | .dT kvs=>kvs.length<=sizeLine/\(a==sysModules)=false/\∃xs:List (List Key×Addr×Value),
   Paired (λ(p:List Key×V) (q:List Key×Addr×Value)=>p.1=q.1/\H q.2.1=some (.tup (p.1.map kV))/\Yc p.2 q.2.2) kvs xs/\
   ∃o es ep,h.get? a=some o/\o.ExactDict/\o.data= .dict es ep/\es.toList=xs.map (entryOfKey (tupleKind (X8 P w)))/\(xs.map (·.1)).Nodup
 | .set S n=>h.SetOf (intKind P w) a S n
 | .ins C dx fs=>H dx=some (.own a)/\fs.length<=1000/\dx≠a/\h.get? a=some (PySem.W.instObj C dx)/\
   ∃mA,h.Ns1 dx mA/\(∀f,BQ (fs.lookup f) (mA f))/\PySem.Within mA (fs.map (·.1))
 | .own _=>∃ o,h.get? a=some o
 | .xd fs=>∃ mA,h.Ns1 a mA/\∀f,BQ (fs.lookup f) (mA f)
 | .rng lo hi=>∃ t u v,h.get? a=some {cls:=.type "range",data:=.fields #[.int lo t, .int hi u, .int 1 v]}
 | .frz o u=>h.get? a=some o/\YH H h a u
 | .tbl ps=>h.get? a=some {cls:=.none,data:=.fields ps}
 | .met f x=>h.get? a=some (PySem.W.methodObj (.ref f) (.ref x))
 | .ext φ=>φ h/\(∃o,h.get? a=some o)/\∀h1 h2:Heap,φ h1->(∀o,h1.get? a=some o->h2.get? a=some o)->φ h2
noncomputable def HOk (H:Hp)(h:Heap):Prop:=∀ a o,H a=some o->YH P w H h a o
end
section
variable {P:Program}{w:World}{H H':Hp}{h h':Heap}{a:Addr}{o:HO}
theorem YH.lt (x:YH P w H h a o):a<h.objs.size:=by
 cases o with
 |lst xs=>obtain⟨_,_,_,_,e⟩:=x;exact Heap.lt_size e
 |tup xs=>obtain⟨_,_,_,p⟩:=x;exact p.t.lt
 |dK kvs=>obtain⟨_,_,_,_,o,_,_,e,_⟩:=x;exact Heap.lt_size e
 |dT kvs=>obtain⟨_,_,_,_,o,_,_,e,_⟩:=x;exact Heap.lt_size e
 |set S n=>obtain⟨o,_,_,_,e,_⟩:=x;exact Heap.lt_size e
 |ins C dx fs=>obtain⟨_,_,_,e,_⟩:=x;exact Heap.lt_size e
 |own y=>obtain⟨_,e⟩:=x;exact Heap.lt_size e
 |xd fs=>obtain⟨_,⟨_,_,_,e,_⟩,_⟩:=x;exact Heap.lt_size e
 |rng lo hi=>obtain⟨_,_,_,e⟩:=x;exact Heap.lt_size e
 |frz ob u=>obtain⟨e,_⟩:=x;exact Heap.lt_size e
 |tbl ps=>exact Heap.lt_size (show h.get? a=some _ from x)
 |met f y=>exact Heap.lt_size (show h.get? a=some _ from x)
 |ext φ=>obtain⟨_,⟨_,e⟩,_⟩:=x;exact Heap.lt_size e
theorem Paired.mapP {α β:Type}{F G:α->β->Prop}:∀{l₁:List α}{l₂:List β},Paired F l₁ l₂->(∀a b,F a b->G a b)->Paired G l₁ l₂:=λp f=>by
 induction p with
 |nil=>exact .nil
 |cons r _ ih=>exact .cons (f _ _ r) ih
theorem YH.stay (x:YH P w H h a o)(k:∀b u,(b=a∨H b=some (.own a))->h.get? b=some u->h'.get? b=some u)
  (ho:∀b,H b=some (.own a)->H' b=some (.own a))(ht:∀b xs,H b=some (.tup xs)->H' b=some (.tup xs)):YH P w H' h' a o:=by
 induction o with
 |lst xs=>obtain⟨z,its,n,r,e⟩:=x;exact⟨z,its,n,r,k _ _ (.inl rfl) e⟩
 |tup xs=>obtain⟨z,its,r,ob,e,c⟩:=x;exact⟨z,its,r,ob,k _ _ (.inl rfl) e,c⟩
 |dK kvs=>obtain⟨z,y,vs,r,ob,es,ep,e,c⟩:=x;exact⟨z,y,vs,r,ob,es,ep,k _ _ (.inl rfl) e,c⟩
 |dT kvs=>
  obtain⟨z,y,xs,r,ob,es,ep,e,c⟩:=x
  exact⟨z,y,xs,Paired.mapP r λp q z=>⟨z.1,ht _ _ z.2.1,z.2.2⟩,ob,es,ep,k _ _ (.inl rfl) e,c⟩
 |set S n=>obtain⟨ob,es,ep,t,e,c⟩:=x;exact⟨ob,es,ep,t,k _ _ (.inl rfl) e,c⟩
 |ins C dx fs=>
  obtain⟨d,z,ne,e,mA,⟨od,es,ep,e2,c⟩,r⟩:=x
  exact⟨ho _ d,z,ne,k _ _ (.inl rfl) e,mA,⟨od,es,ep,k _ _ (.inr d) e2,c⟩,r⟩
 |own y=>obtain⟨ob,e⟩:=x;exact⟨ob,k _ _ (.inl rfl) e⟩
 |xd fs=>obtain⟨mA,⟨od,es,ep,e,c⟩,r⟩:=x;exact⟨mA,⟨od,es,ep,k _ _ (.inl rfl) e,c⟩,r⟩
 |rng lo hi=>obtain⟨t,u,v,e⟩:=x;exact⟨t,u,v,k _ _ (.inl rfl) e⟩
 |frz ob u ih=>obtain⟨e,q⟩:=x;exact⟨k _ _ (.inl rfl) e,ih q⟩
 |tbl ps=>
  have e:h.get? a=some {cls:=.none,data:=.fields ps}:=x
  show h'.get? a=some {cls:=.none,data:=.fields ps}
  exact k a _ (.inl rfl) e
 |met f y=>
  have e:h.get? a=some (PySem.W.methodObj (.ref f) (.ref y)):=x
  show h'.get? a=some (PySem.W.methodObj (.ref f) (.ref y))
  exact k a _ (.inl rfl) e
 |ext φ=>obtain⟨p,⟨o,e⟩,st⟩:=x;exact⟨st _ _ p λo q=>k _ _ (.inl rfl) q,⟨o,k _ _ (.inl rfl) e⟩,st⟩
theorem HOk.lt (x:HOk P w H h)(e:H a=some o):a<h.objs.size:=(x a o e).lt
theorem HOk.fresh (x:HOk P w H h)(e:h.objs.size<=a):H a=none:=by
 cases q:H a with
 |none=>rfl
 |some u=>exact absurd (Nat.lt_of_lt_of_le (x.lt q) e) (Nat.lt_irrefl _)
theorem HOk.kept (x:HOk P w H h)(k:∀b u,h.get? b=some u->h'.get? b=some u):HOk P w H h':=λa o e=>
 (x a o e).stay (λb u _ q=>k b u q) (λ_ q=>q) λ_ _ q=>q
theorem HOk.laid (x:HOk P w H h)(k:∀b u,h.get? b=some u->h'.get? b=some u)(hp:h.objs.size<=a)(new:YH P w (upd H a o) h' a o):HOk P w (upd H a o) h':=λb u e=>by
 have hn:=x.fresh hp
 by_cases hb:b=a
 ·subst hb;rw[Yr] at e;cases e;exact new
 ·rw[Xs hb] at e
  exact(x b u e).stay (λc v _ q=>k c v q) (λc q=>by rw[Xs (XR q hn)];exact q) λc xs q=>by rw[Xs (XR q hn)];exact q
end
noncomputable def Rd (H:Hp)(a:Addr)(u:HO):Prop:=H a=some u∨∃o,H a=some (.frz o u)
theorem Rd.of {H:Hp}{a:Addr}{u:HO}(h:H a=some u):Rd H a u:=.inl h
theorem Rd.ok {P:Program}{w:World}{H:Hp}{h:Heap}{a:Addr}{u:HO}(r:Rd H a u)(x:HOk P w H h):YH P w H h a u:=by
 rcases r with r | ⟨o,r⟩
 ·exact x a u r
 ·obtain⟨_,q⟩:=x a _ r
  exact q
noncomputable def Mut:Option HO->Prop
 |some (.lst _)=>True
 |some (.dK _)=>True
 |some (.dT _)=>True
 |some (.set _ _)=>True
 |some (.ins _ _ _)=>True
 |some (.ext _)=>True
 |_=>False
section
variable {P:Program}{w:World}{H:Hp}{h h':Heap}{x e:Addr}{o':HO}
theorem HOk.write (ok:HOk P w H h)(mu:Mut (H x))(he:e=x∨H e=some (.own x))(k:∀b u,b≠e->h.get? b=some u->h'.get? b=some u)(heo:∃u,h'.get? e=some u)
  (new:YH P w (upd H x o') h' x o'):HOk P w (upd H x o') h':=λb u q=>by
 have nown:∀c y,H c=some (.own y)->c≠x:=λc y r z=>by subst z;rw[r] at mu;exact mu
 have ntup:∀c xs,H c=some (.tup xs)->c≠x:=λc xs r z=>by subst z;rw[r] at mu;exact mu
 by_cases hb:b=x
 ·subst hb;rw[Yr] at q;cases q;exact new
 ·rw[Xs hb] at q
  by_cases hbe:b=e
  ·have q':H b=some (.own x):=by
    rcases he with z |z
    ·exact absurd (hbe.trans z) hb
    ·rw[hbe];exact z
   rw[q] at q';cases q'
   obtain⟨v,hv⟩:=heo
   exact⟨v,by rw[hbe];exact hv⟩
  ·refine(ok b u q).stay (λc v hc r=>k c v ?_ r) (λc r=>by rw[Xs (nown c b r)];exact r) λc xs r=>by rw[Xs (ntup c xs r)];exact r
   rcases hc with rfl |hc
   ·exact hbe
   ·rintro rfl
    rcases he with z |z
    ·exact nown c b hc z
    ·rw[hc] at z;cases z;exact hb rfl
end
structure Un (fs ex:List Addr)(H H':Hp)(h h':Heap):Prop where
 keep:∀b o,h.get? b=some o->H b=none->b∉fs->b∉ex->h'.get? b=some o
 slot:∀b o,h.get? b=some o->H b=none->b∈fs->b∉ex->∃sl,h'.get? b=some {o with slots:=sl}
 free:∀b o,h.get? b=some o->H b=none->b∉ex->H' b=none
 there:∀b o,h.get? b=some o->b∉ex->∃o',h'.get? b=some o'
 tups:∀b xs,H b=some (.tup xs)->H' b=some (.tup xs)
 frzs:∀b o u,H b=some (.frz o u)->H' b=some (.frz o u)
 tbls:∀b ps,H b=some (.tbl ps)->∃more,H' b=some (.tbl (ps++more))
section
variable {fs fs' ex ex':List Addr}{H H1 H2:Hp}{h h1 h2 h':Heap}{a x e:Addr}{o:HO}
theorem Un.any (u:Un fs ex H H1 h h1){b:Addr}{ob:Obj}(q:h.get? b=some ob)(n:H b=none)(hx:b∉ex):∃sl,h1.get? b=some {ob with slots:=sl}:=by
 by_cases hb:b∈fs
 ·exact u.slot b ob q n hb hx
 ·exact⟨ob.slots,u.keep b ob q n hb hx⟩
theorem Un.trans (a:Un fs ex H H1 h h1)(b:Un fs ex H1 H2 h1 h2):Un fs ex H H2 h h2 where
 keep:=λc ob q n hc hx=>b.keep c ob (a.keep c ob q n hc hx) (a.free c ob q n hx) hc hx
 slot:=λc ob q n hc hx=>by
  obtain⟨sl,e1⟩:=a.slot c ob q n hc hx
  obtain⟨sl',e2⟩:=b.slot c _ e1 (a.free c ob q n hx) hc hx
  exact⟨sl',e2⟩
 free:=λc ob q n hx=>by
  obtain⟨o',e1⟩:=a.there c ob q hx
  exact b.free c o' e1 (a.free c ob q n hx) hx
 there:=λc ob q hx=>by
  obtain⟨o',e1⟩:=a.there c ob q hx
  exact b.there c o' e1 hx
 tups:=λc xs q=>b.tups c xs (a.tups c xs q)
 frzs:=λc ob xs q=>b.frzs c ob xs (a.frzs c ob xs q)
 tbls:=λc ps q=>by
  obtain⟨m1,e1⟩:=a.tbls c ps q
  obtain⟨m2,e2⟩:=b.tbls c _ e1
  exact⟨m1++m2,by rw[e2,Array.append_assoc]⟩
theorem Un.kept (k:∀b u,h.get? b=some u->h'.get? b=some u):Un fs ex H H h h':=
 ⟨λb ob q _ _ _=>k b ob q,λb ob q _ _ _=>⟨ob.slots,k b ob q⟩,λ_ _ _ n _=>n,λb ob q _=>⟨ob,k b ob q⟩,λ_ _ q=>q,λ_ _ _ q=>q,λ_ ps q=>⟨#[],by rw[q];simp⟩⟩
theorem Un.refl:Un fs ex H H h h:=Un.kept λ_ _ q=>q
theorem Un.laid (k:∀b u,h.get? b=some u->h'.get? b=some u)(hp:h.objs.size<=a)(hn:H a=none):Un fs ex H (upd H a o) h h' where
 keep:=λb u q _ _ _=>k b u q
 slot:=λb u q _ _ _=>⟨u.slots,k b u q⟩
 free:=λb u q n _=>by rw[Xs (Nat.ne_of_lt (Nat.lt_of_lt_of_le (Heap.lt_size q) hp))];exact n
 there:=λb u q _=>⟨u,k b u q⟩
 tups:=λb xs q=>by rw[Xs (XR q hn)];exact q
 frzs:=λb u xs q=>by rw[Xs (XR q hn)];exact q
 tbls:=λb ps q=>⟨#[],by rw[Xs (XR q hn),q];simp⟩
theorem Un.write (mu:Mut (H x))(he:e=x∨H e=some (.own x))(k:∀b u,b≠e->h.get? b=some u->h'.get? b=some u)(heo:∃u,h'.get? e=some u):Un fs ex H (upd H x o) h h':=by
 have hx:∀b,H b=none->b≠x:=λb n z=>by subst z;rw[n] at mu;exact mu
 have hb:∀b,H b=none->b≠e:=λb n z=>by
  subst z
  rcases he with r |r
  ·exact hx b n r
  ·rw[n] at r;cases r
 have hm:∀b u,H b=some u->¬Mut (some u)->b≠x:=λb u q nm z=>by subst z;rw[q] at mu;exact nm mu
 refine⟨λb u q n _ _=>k b u (hb b n) q,λb u q n _ _=>⟨u.slots,k b u (hb b n) q⟩,λb u q n _=>by rw[Xs (hx b n)];exact n,λb u q _=>?_,
  λb xs q=>by rw[Xs (hm b _ q λz=>z)];exact q,λb u xs q=>by rw[Xs (hm b _ q λz=>z)];exact q,λb ps q=>⟨#[],by rw[Xs (hm b _ q λz=>z),q];simp⟩⟩
 by_cases hbe:b=e
 ·subst hbe;exact heo
 ·exact⟨u,k b u hbe q⟩
theorem Un.mono (u:Un fs ex H H1 h h1)(hs:∀b∈fs,b∈fs')(hx:∀b∈ex,b∈ex'):Un fs' ex' H H1 h h1:=
 ⟨λb ob q n hb he=>u.keep b ob q n (λz=>hb (hs b z)) λz=>he (hx b z),λ_ _ q n _ he=>u.any q n λz=>he (hx _ z),λb ob q n he=>u.free b ob q n λz=>he (hx b z),λb ob q he=>u.there b ob q λz=>he (hx b z),u.tups,u.frzs,u.tbls⟩
end
noncomputable def trk (h:Heap)(H:Hp):List Addr:=(List.range h.objs.size).filter λa=>(H a).isSome
noncomputable def CU (h:Heap)(H:Hp):Heap:=PySem.W.hideAll h (trk h H)
theorem F4 (h:Heap)(H:Hp):(CU h H).objs.size=h.objs.size:=PySem.W.hideAll_size _ _
theorem Gn {h:Heap}{H:Hp}{b:Addr}{o:Obj}(e:h.get? b=some o)(n:H b=none):(CU h H).get? b=some o:=
 PySem.W.hideAll_get _ e λhm=>by
  have q:(H b).isSome=true:=(List.mem_filter.mp hm).2
  rw[n] at q;simp at q
theorem E8 {h:Heap}{H:Hp}{b:Addr}{o:Obj}(e:(CU h H).get? b=some o):h.get? b=some o/\H b=none:=by
 have e':h.get? b=some o:=PySem.W.of_hideAll (trk h H) e
 refine⟨e',?_⟩
 cases q:H b with
 |none=>rfl
 |some x=>
  have hm:b∈trk h H:=List.mem_filter.mpr ⟨List.mem_range.mpr (Heap.lt_size e'),by simp[q]⟩
  have z:(CU h H).get? b=none:=PySem.W.hideAll_none (trk h H) hm
  rw[z] at e;cases e
noncomputable def E2 (g h:Heap)(L:Addr):List (Addr×Obj):=(List.range h.objs.size).filterMap λa=>if a=L∨(g.get? a).isSome=true then none else(h.get? a).map λo=>(a,o)
noncomputable def rest (g h:Heap)(L d:Addr):List (Addr×Obj):=(E2 g h L).filter λp=>decide (p.1≠d)
structure Mod (K:PySem.W.Frag)(mg:Str->Option Value)(base:Heap):Prop where
 kin:K.In base
 glob:base.Ns mainGlobals mg
 blt:∃mb,base.Ns builtinsNs mb/\∀x:Str,x≠ "__name__" ->mb x=bootBuiltins x
 nolimit:base.NoLimit
structure Cx where
 prog:Program
 w:World
 K:PySem.W.Frag
 mg:Str->Option Value
 base:Heap
 A:Around
 N:List Str
 s₀:Shared
 H₀:Hp
 env:Env
 outer:List Env
 stack:List Env
 ex:List Addr
 fn:Str->Bool
 calm:Bool
 pn:List (Addr×Obj)
 xe:Value->Shared->Prop
noncomputable def frs (l:List Env):List Addr:=l.filterMap (·.frame)
noncomputable abbrev Cx.fs (X:Cx):List Addr:=frs X.outer
noncomputable def Vis (sc:Scope)(x:Str):Prop:=sc.names.lookup x=some .local∨sc.names.lookup x=some .cell∨sc.names.lookup x=some .free
noncomputable def Loc (sc:Scope)(x:Str):Prop:=sc.names.lookup x=some .local∨sc.names.lookup x=some .cell
noncomputable def MH (env:Env)(h:Heap)(m:Str->Option Value)(x:Str)(u:Value):Prop:=
 (env.kindOf x=some .local/\m x=some u)∨((env.kindOf x=some .cell∨env.kindOf x=some .free)/\∃c,env.cells.lookup x=some c/\h.IsCell c (some u))
structure Cx.Ok (X:Cx):Prop where
 mod:Mod X.K X.mg X.base
 kind:X.env.scope.kind= .function
 glob:X.env.globals=mainGlobals
 blt:X.env.builtins=builtinsNs
 above:X.s₀.heap.objs.size<=X.env.locals
 inj:∀x y c,X.env.cells.lookup x=some c->X.env.cells.lookup y=some c->x=y
 has:∀x,(X.env.kindOf x=some .cell∨X.env.kindOf x=some .free)->∃c,X.env.cells.lookup x=some c
 cab:∀x c,X.fn x=true->X.env.cells.lookup x=some c->X.s₀.heap.objs.size<=c
 hd:X.calm=true->X.A.handled=none
 frames:X.A.frames=some X.stack
 stk:X.stack=X.outer∨(X.stack=X.env::X.outer/\X.env.frame=some X.env.locals)
 exf:∀b∈X.ex,b≠X.env.locals/\∀x c,X.env.cells.lookup x=some c->c≠b
 bs:∀b o,X.base.get? b=some o->X.s₀.heap.get? b=some o/\X.H₀ b=none
 bsz:X.base.objs.size<=X.s₀.heap.objs.size
 noex:∀b o,X.base.get? b=some o->b∉X.ex
 exfs:∀b∈X.ex,b∉X.fs
 funs:X.s₀.heap.FunFrames X.base X.outer
 frf:∀b∈X.fs,X.H₀ b=none
structure Inv (X:Cx)(pins:List (Addr×Obj))(σ:List (Option V))(H:Hp)(s:Shared):Prop where
 ok:X.Ok
 os:s.os=X.s₀.os
 bare:AllBare s.gens
 base:Un X.fs X.ex X.H₀ H X.s₀.heap s.heap
 loc:∃m,s.heap.Ns X.env.locals m/\∀(i:Nat) (x:Str) (v:V),X.N[i]?=some x->σ[i]?=some (some v)->Vis X.env.scope x->∃u,Yc v u/\MH X.env s.heap m x u
 cell:∀x c,X.env.cells.lookup x=some c->∃v,s.heap.IsCell c v
 free:H X.env.locals=none
 freeC:∀x c,X.env.cells.lookup x=some c->H c=none
 pin:∀p∈X.pn++pins,s.heap.get? p.1=some p.2/\H p.1=none/\p.1≠X.env.locals/\p.1∉X.fs/\∀v,p.2.data≠ .cell v
 hok:HOk X.prog X.w H s.heap
 len:σ.length=X.N.length
section
variable {X:Cx}{pins:List (Addr×Obj)}{σ:List (Option V)}{H H':Hp}{s:Shared}{h':Heap}
theorem Cx.Ok.nofr (ok:X.Ok){b:Addr}{o:Obj}(e:X.base.get? b=some o):b∉X.fs:=λhb=>by
 have:=(ok.funs.mem hb).1
 rw[e] at this;cases this
theorem Inv.bs (I:Inv X pins σ H s):∀b o,X.base.get? b=some o->s.heap.get? b=some o/\H b=none:=λb o e=>
 ⟨I.base.keep b o (I.ok.bs b o e).1 (I.ok.bs b o e).2 (I.ok.nofr e) (I.ok.noex b o e),I.base.free b o (I.ok.bs b o e).1 (I.ok.bs b o e).2 (I.ok.noex b o e)⟩
theorem Inv.bk (I:Inv X pins σ H s):∀b o,X.base.get? b=some o->s.heap.get? b=some o:=λb o e=>(I.bs b o e).1
theorem Inv.mod (I:Inv X pins σ H s):Mod X.K X.mg X.base:=I.ok.mod
theorem Inv.kIn (I:Inv X pins σ H s):X.K.In s.heap:=I.ok.mod.kin.keeps I.bk
theorem Inv.nolimit (I:Inv X pins σ H s):s.heap.NoLimit:=I.ok.mod.nolimit.keeps I.bk
theorem Inv.lt (I:Inv X pins σ H s):X.env.locals<s.heap.objs.size:=let ⟨_,hn,_⟩:=I.loc;hn.lt
theorem Inv.sz (I:Inv X pins σ H s):X.s₀.heap.objs.size<=s.heap.objs.size:=Nat.le_trans I.ok.above (Nat.le_of_lt I.lt)
theorem Inv.nofs (I:Inv X pins σ H s){a:Addr}(h:s.heap.objs.size<=a):a∉X.fs:=λhb=>by
 obtain⟨_,o,ho,_⟩:=I.ok.funs.mem hb
 exact absurd (Nat.lt_of_lt_of_le (Heap.lt_size ho) (Nat.le_trans I.sz h)) (Nat.lt_irrefl _)
theorem Inv.cne (I:Inv X pins σ H s):∀x c,X.env.cells.lookup x=some c->c≠X.env.locals:=λx c e z=>by
 obtain⟨v,o,ho,hd⟩:=I.cell x c e
 obtain⟨m,⟨o',es,ep,ho',hd',_⟩,_⟩:=I.loc
 rw[z,ho'] at ho;cases ho;rw[hd'] at hd;cases hd
theorem Inv.funs (I:Inv X pins σ H s):s.heap.FunFrames X.base X.outer:=by
 have all:∀(l:List Env),(∀b∈frs l,b∈X.fs)->X.s₀.heap.FunFrames X.base l->s.heap.FunFrames X.base l:=by
  intro l
  induction l with
  |nil=>intro _ _;trivial
  |cons env r ih=>
   intro hs hl
   obtain⟨hk,⟨L,o,hf,hn,ho,hd⟩,hr⟩:=hl
   have hL:L∈X.fs:=hs L (by unfold frs;rw[List.filterMap_cons,hf];exact List.mem_cons_self)
   obtain⟨sl,e⟩:=I.base.slot L o ho (I.ok.frf L hL) hL λz=>I.ok.exfs L z hL
   exact⟨hk,⟨L,_,hf,hn,e,hd⟩,ih (λb hb=>hs b (by unfold frs;rw[List.filterMap_cons,hf];exact List.mem_cons_of_mem _ hb)) hr⟩
 exact all X.outer (λ_ hb=>hb) I.ok.funs
theorem Inv.stack (I:Inv X pins σ H s):s.heap.FunFrames X.base X.stack:=by
 rcases I.ok.stk with e | ⟨e,hf⟩
 ·rw[e];exact I.funs
 ·rw[e]
  obtain⟨m,hn,_⟩:=I.loc
  refine .cons (by rw[I.ok.kind];decide) hf hn ?_ I.funs
  exact Heap.get?_none_of_le (Nat.le_trans I.ok.bsz I.ok.above)
theorem Inv.stkSub (I:Inv X pins σ H s):∀b∈frs X.stack,b∈X.env.locals::X.fs:=λb hb=>by
 rcases I.ok.stk with e | ⟨e,hf⟩
 ·rw[e] at hb;exact List.mem_cons_of_mem _ hb
 ·rw[e] at hb
  unfold frs at hb
  rw[List.filterMap_cons,hf] at hb
  exact hb
theorem Inv.stkFree (I:Inv X pins σ H s):∀b∈frs X.stack,H b=none:=λb hb=>by
 rcases List.mem_cons.mp (I.stkSub b hb) with e |hb
 ·rw[e];exact I.free
 ·obtain⟨_,o,ho,_⟩:=I.ok.funs.mem hb
  exact I.base.free b o ho (I.ok.frf b hb) λz=>I.ok.exfs b z hb
theorem Inv.step {g':Array GenState}{t':Nat}{d':Drawn}{ch:List Addr}(I:Inv X pins σ H s)
  (hch:∀b∈ch,(b∈X.ex∨X.s₀.heap.objs.size<=b)/\b≠X.env.locals/\(∀x c,X.env.cells.lookup x=some c->c≠b)/\∀p∈X.pn++pins,p.1≠b)
  (keep:∀b o,b≠X.env.locals->b∉X.fs->b∉ch->s.heap.get? b=some o->H b=none->h'.get? b=some o)
  (slot:∀b o,b≠X.env.locals->b∈X.fs->b∉ch->s.heap.get? b=some o->H b=none->∃sl,h'.get? b=some {o with slots:=sl})(free:∀b o,b∉ch->s.heap.get? b=some o->H b=none->H' b=none)
  (there:∀b o,b∉ch->s.heap.get? b=some o->∃o',h'.get? b=some o')
  (tups:∀b xs,H b=some (.tup xs)->H' b=some (.tup xs))(frzs:∀b o u,H b=some (.frz o u)->H' b=some (.frz o u))(tbls:∀b ps,H b=some (.tbl ps)->∃more,H' b=some (.tbl (ps++more)))
  (ns:∀m,s.heap.Ns X.env.locals m->h'.Ns X.env.locals m)(hok:HOk X.prog X.w H' h')(hg:AllBare g'):
  Inv X pins σ H' {s with heap:=h',gens:=g',drawn:=d',toks:=t'}:=by
 have neL:∀b o,X.s₀.heap.get? b=some o->b≠X.env.locals:=λb o e=>Nat.ne_of_lt (Nat.lt_of_lt_of_le (Heap.lt_size e) I.ok.above)
 have neC:∀b o,X.s₀.heap.get? b=some o->b∉X.ex->b∉ch:=λb o e hx hb=>by
  rcases(hch b hb).1 with z |z
  ·exact hx z
  ·exact absurd (Nat.lt_of_lt_of_le (Heap.lt_size e) z) (Nat.lt_irrefl _)
 have cellK:∀x c,X.env.cells.lookup x=some c->∀v,s.heap.IsCell c v->h'.IsCell c v:=λx c e v ⟨o,ho,hd⟩=>by
  have nch:c∉ch:=λz=>(hch c z).2.2.1 x c e rfl
  by_cases hc:c∈X.fs
  ·obtain⟨sl,q⟩:=slot c o (I.cne x c e) hc nch ho (I.freeC x c e)
   exact⟨_,q,hd⟩
  ·exact⟨o,keep c o (I.cne x c e) hc nch ho (I.freeC x c e),hd⟩
 refine⟨I.ok,I.os,hg,⟨λb o e n hb hx=>?_,λb o e n hb hx=>?_,λb o e n hx=>?_,λb o e hx=>?_,λb xs e=>tups b xs (I.base.tups b xs e),λb o xs e=>frzs b o xs (I.base.frzs b o xs e),λb ps e=>?_⟩,?_,λx c e=>?_,?_,λx c e=>?_,λp hp=>?_,hok,I.len⟩
 ·exact keep b o (neL b o e) hb (neC b o e hx) (I.base.keep b o e n hb hx) (I.base.free b o e n hx)
 ·obtain⟨sl,e1⟩:=I.base.slot b o e n hb hx
  obtain⟨sl',e2⟩:=slot b _ (neL b o e) hb (neC b o e hx) e1 (I.base.free b o e n hx)
  exact⟨sl',e2⟩
 ·obtain⟨o',e1⟩:=I.base.there b o e hx
  exact free b o' (neC b o e hx) e1 (I.base.free b o e n hx)
 ·obtain⟨o',e1⟩:=I.base.there b o e hx
  exact there b o' (neC b o e hx) e1
 ·obtain⟨m1,e1⟩:=I.base.tbls b ps e
  obtain⟨m2,e2⟩:=tbls b _ e1
  exact⟨m1++m2,by rw[e2,Array.append_assoc]⟩
 ·obtain⟨m,hn,hl⟩:=I.loc
  refine⟨m,ns m hn,λi x v e1 e2 e3=>?_⟩
  obtain⟨u,r,l⟩:=hl i x v e1 e2 e3
  refine⟨u,r,?_⟩
  rcases l with l | ⟨k,c,e,z⟩
  ·exact .inl l
  ·exact .inr ⟨k,c,e,cellK x c e _ z⟩
 ·obtain⟨v,z⟩:=I.cell x c e
  exact⟨v,cellK x c e v z⟩
 ·obtain⟨m,⟨o,_,_,ho,_⟩,_⟩:=I.loc
  exact free _ o (λz=>(hch _ z).2.1 rfl) ho I.free
 ·obtain⟨v,o,ho,hd⟩:=I.cell x c e
  exact free c o (λz=>(hch c z).2.2.1 x c e rfl) ho (I.freeC x c e)
 ·obtain⟨e,n,ne,nf,d⟩:=I.pin p hp
  have nch:p.1∉ch:=λz=>(hch p.1 z).2.2.2 p hp rfl
  exact⟨keep p.1 p.2 ne nf nch e n,free p.1 p.2 nch e n,ne,nf,d⟩
theorem Inv.un {t':Nat}(I:Inv X pins σ H s)(u:Un X.fs [] H H' s.heap h')(hok:HOk X.prog X.w H' h'):Inv X pins σ H' {s with heap:=h',toks:=t'}:=by
 obtain⟨m,⟨o,es,ep,ho,r⟩,_⟩:=id I.loc
 obtain⟨sl,hL⟩:=u.any ho I.free (by simp)
 exact I.step (g':=s.gens) (d':=s.drawn) (ch:=[]) (λ_ z=>nomatch z) (λb o _ hb _ e n=>u.keep b o e n hb (by simp)) (λb o _ hb _ e n=>u.slot b o e n hb (by simp)) (λb o _ e n=>u.free b o e n (by simp)) (λb o _ e=>u.there b o e (by simp)) u.tups u.frzs u.tbls (λm' hm=>by
  obtain⟨o',es',ep',ho',r'⟩:=hm
  rw[ho] at ho';cases ho'
  exact⟨_,es',ep',hL,r'⟩) hok I.bare
theorem Inv.call {g':Array GenState}{t':Nat}{d':Drawn}{ch:List Addr}(I:Inv X pins σ H s)(u:Un (frs X.stack) ch H H' s.heap h')(hok:HOk X.prog X.w H' h')(hg:AllBare g')
  (hch:∀b∈ch,(b∈X.ex∨X.s₀.heap.objs.size<=b)/\b≠X.env.locals/\(∀x c,X.env.cells.lookup x=some c->c≠b)/\∀p∈X.pn++pins,p.1≠b):
  Inv X pins σ H' {s with heap:=h',gens:=g',drawn:=d',toks:=t'}:=by
 obtain⟨m,⟨o,es,ep,ho,r⟩,_⟩:=id I.loc
 obtain⟨sl,hL⟩:=u.any ho I.free λz=>(hch _ z).2.1 rfl
 exact I.step (ch:=ch) hch (λb o hL hb hc e n=>u.keep b o e n (λz=>(List.mem_cons.mp (I.stkSub b z)).elim hL hb) hc) (λb o _ _ hc e n=>u.any e n hc) (λb o hc e n=>u.free b o e n hc) (λb o hc e=>u.there b o e hc) u.tups u.frzs u.tbls (λm' hm=>by
  obtain⟨o',es',ep',ho',r'⟩:=hm
  rw[ho] at ho';cases ho'
  exact⟨_,es',ep',hL,r'⟩) hok hg
theorem Inv.turned {t':Nat}{it:Addr}(I:Inv X pins σ H s)(k:∀b o,b≠it->s.heap.get? b=some o->h'.get? b=some o)(hn:H it=none)(hL:it≠X.env.locals)
  (h1:it∈X.ex∨X.s₀.heap.objs.size<=it)(h2:∀x c,X.env.cells.lookup x=some c->c≠it)(h3:∀p∈X.pn++pins,p.1≠it):Inv X pins σ H {s with heap:=h',toks:=t'}:=by
 have nit:∀b u,H b=some u->b≠it:=λb u e z=>by rw[z,hn] at e;cases e
 refine I.step (g':=s.gens) (d':=s.drawn) (ch:=[it]) (λb hb=>?_) (λb o _ _ hc e _=>k b o (λz=>hc (by simp[z])) e) (λb o _ _ hc e _=>⟨o.slots,k b o (λz=>hc (by simp[z])) e⟩) (λ_ _ _ _ n=>n)
  (λb o hc e=>⟨o,k b o (λz=>hc (by simp[z])) e⟩) (λ_ _ e=>e) (λ_ _ _ e=>e) (λb ps e=>⟨#[],by rw[e];simp⟩) (λm hm=>?_) (λb u e=>?_) I.bare
 ·have e:b=it:=by simpa using hb
  subst e
  exact⟨h1,hL,h2,h3⟩
 ·obtain⟨o,es,ep,ho,r⟩:=hm
  exact⟨o,es,ep,k _ o (Ne.symm hL) ho,r⟩
 ·refine(I.hok b u e).stay (λc v hc q=>k c v ?_ q) (λ_ q=>q) λ_ _ q=>q
  rcases hc with z |z
  ·rw[z];exact nit b u e
  ·exact nit c _ z
theorem Inv.tok (I:Inv X pins σ H s)(t:Nat):Inv X pins σ H {s with toks:=t}:=I.un (h':=s.heap) (t':=t) Un.refl I.hok
theorem Inv.kept {t':Nat}(I:Inv X pins σ H s)(k:∀b u,s.heap.get? b=some u->h'.get? b=some u):Inv X pins σ H {s with heap:=h',toks:=t'}:=I.un (Un.kept k) (I.hok.kept k)
theorem Inv.laid {a:Addr}{o:HO}{t':Nat}(I:Inv X pins σ H s)(k:∀b u,s.heap.get? b=some u->h'.get? b=some u)(hp:s.heap.objs.size<=a)(new:YH X.prog X.w (upd H a o) h' a o):
  Inv X pins σ (upd H a o) {s with heap:=h',toks:=t'}:=I.un (Un.laid k hp (I.hok.fresh hp)) (I.hok.laid k hp new)
theorem Inv.write {x e:Addr}{o:HO}{t':Nat}(I:Inv X pins σ H s)(mu:Mut (H x))(he:e=x∨H e=some (.own x))(k:∀b u,b≠e->s.heap.get? b=some u->h'.get? b=some u)(heo:∃u,h'.get? e=some u)
  (new:YH X.prog X.w (upd H x o) h' x o):Inv X pins σ (upd H x o) {s with heap:=h',toks:=t'}:=I.un (Un.write mu he k heo) (I.hok.write mu he k heo new)
theorem Inv.weak {σ':List (Option V)}(I:Inv X pins σ H s)(hl:σ'.length=σ.length)(w:∀(i:Nat) v,σ'[i]?=some (some v)->σ[i]?=some (some v)):Inv X pins σ' H s:=
 ⟨I.ok,I.os,I.bare,I.base,let ⟨m,hn,hl'⟩:=I.loc;⟨m,hn,λi x v e1 e2 e3=>hl' i x v e1 (w i v e2) e3⟩,I.cell,I.free,I.freeC,I.pin,I.hok,hl.trans I.len⟩
theorem Inv.pins_of {pins':List (Addr×Obj)}(I:Inv X pins σ H s)(h:∀p∈pins',s.heap.get? p.1=some p.2/\H p.1=none/\p.1≠X.env.locals/\p.1∉X.fs/\∀v,p.2.data≠ .cell v):Inv X pins' σ H s:=
 ⟨I.ok,I.os,I.bare,I.base,I.loc,I.cell,I.free,I.freeC,λp hp=>(List.mem_append.mp hp).elim (λz=>I.pin p (List.mem_append_left _ z)) (h p),I.hok,I.len⟩
theorem GL {N:List Str}(hN:N.Nodup){i j:Nat}{x:Str}(a:N[i]?=some x)(b:N[j]?=some x):i=j:=by
 obtain⟨h1,e1⟩:=List.getElem?_eq_some_iff.mp a
 obtain⟨h2,e2⟩:=List.getElem?_eq_some_iff.mp b
 exact(List.getElem_inj hN).mp (e1.trans e2.symm)
theorem Kd {M:Model}{A:Around}{E:Value->Shared->Prop}{i:Nat}{x:Str}{v:V}{u:Value}{Q:Unit->Shared->Prop}(I:Inv X pins σ H s)(hN:X.N.Nodup)(hi:X.N[i]?=some x)(hx:Loc X.env.scope x)(r:Yc v u)
  (h:∀s',Inv X pins (σ.set i (some v)) H s'->(∃a,Heap.SameBut a s.heap s'.heap/\(a=X.env.locals∨X.env.cells.lookup x=some a))->Q () s')(hf:X.fn x=true∨X.env.scope.names.lookup x=some .local:=by first |exact .inl rfl |exact .inr rfl |assumption):wpAny M A (storeName X.env x u) Q E s:=by
 obtain⟨m,hn,hl⟩:=id I.loc
 have hcls:(X.env.scope.kind== .class || (X.env.scope.kind== .module&&X.env.locals !=X.env.globals))=false:=by rw[I.ok.kind];rfl
 have hiσ:i<σ.length:=by rw[I.len];exact(List.getElem?_eq_some_iff.mp hi).1
 have cne:=I.cne
 have tracked:∀{a:Addr}{h':Heap},(∃o,s.heap.get? a=some o/\H a=none)->Heap.SameBut a s.heap h'->HOk X.prog X.w H h':=fun {a h'} ha hs b ob e=>by
  obtain⟨_,_,hfree⟩:=ha
  refine(I.hok b ob e).stay (λc w' hc q=>(hs.2 c ?_).trans q) (λ_ q=>q) λ_ _ q=>q
  rintro rfl
  rcases hc with rfl |hc
  ·rw[hfree] at e;cases e
  ·rw[hfree] at hc;cases hc
 rcases hx with hk |hk
 ·refine wpAny_storeName_local hk hn (λh' hn' hs=>?_) hcls
  obtain⟨oL,_,_,hoL,_⟩:=id hn
  refine h _ ⟨I.ok,I.os,I.bare,⟨λb o e n hb hx=>?_,λb o e n hb hx=>?_,I.base.free,λb o e hx=>?_,I.base.tups,I.base.frzs,I.base.tbls⟩,⟨_,hn',λj y v' e1 e2 e3=>?_⟩,λy c e=>?_,I.free,I.freeC,λp hp=>?_,tracked ⟨oL,hoL,I.free⟩ hs,by simpa using I.len⟩ ⟨_,hs, .inl rfl⟩
  ·exact(hs.2 b (Nat.ne_of_lt (Nat.lt_of_lt_of_le (Heap.lt_size e) I.ok.above))).trans (I.base.keep b o e n hb hx)
  ·obtain⟨sl,e1⟩:=I.base.slot b o e n hb hx
   exact⟨sl,(hs.2 b (Nat.ne_of_lt (Nat.lt_of_lt_of_le (Heap.lt_size e) I.ok.above))).trans e1⟩
  ·obtain⟨o',e1⟩:=I.base.there b o e hx
   exact⟨o',(hs.2 b (Nat.ne_of_lt (Nat.lt_of_lt_of_le (Heap.lt_size e) I.ok.above))).trans e1⟩
  ·by_cases hj:j=i
   ·subst hj
    rw[hi] at e1;cases e1
    rw[List.getElem?_set_self hiσ] at e2
    cases e2
    exact⟨u,r, .inl ⟨hk,by simp⟩⟩
   ·rw[List.getElem?_set_ne (Ne.symm hj)] at e2
    obtain⟨u',r',q⟩:=hl j y v' e1 e2 e3
    refine⟨u',r',?_⟩
    rcases q with⟨k,e⟩ | ⟨k,c,e,z⟩
    ·refine .inl ⟨k,?_⟩
     have:y≠x:=λe=>hj (GL hN e1 (e▸hi))
     simp[this,e]
    ·exact .inr ⟨k,c,e,z.sameBut hs (cne y c e)⟩
  ·obtain⟨w',z⟩:=I.cell y c e
   exact⟨w',z.sameBut hs (cne y c e)⟩
  ·obtain⟨e,n,ne,nf,d⟩:=I.pin p hp
   exact⟨(hs.2 p.1 ne).trans e,n,ne,nf,d⟩
 ·have hfn:X.fn x=true:=by
   rcases hf with z |z
   ·exact z
   ·rw[z] at hk;cases hk
  obtain⟨c,hc⟩:=I.ok.has x (.inl hk)
  obtain⟨w',z⟩:=I.cell x c hc
  refine wpAny_storeName_cell I.ok.kind hk hc z (λh' hc' hs=>?_)
  obtain⟨oc,hoc,hocd⟩:=id z
  refine h {s with heap:=h'} ⟨I.ok,I.os,I.bare,⟨λb o e n hb hx=>?_,λb o e n hb hx=>?_,I.base.free,λb o e hx=>?_,I.base.tups,I.base.frzs,I.base.tbls⟩,⟨m,hn.sameBut hs (Ne.symm (cne x c hc)),λj y v' e1 e2 e3=>?_⟩,λy c' e=>?_,I.free,I.freeC,λp hp=>?_,tracked ⟨oc,hoc,I.freeC x c hc⟩ hs,by simpa using I.len⟩ ⟨c,hs, .inr hc⟩
  ·exact(hs.2 b (Nat.ne_of_lt (Nat.lt_of_lt_of_le (Heap.lt_size e) (I.ok.cab x c hfn hc)))).trans (I.base.keep b o e n hb hx)
  ·obtain⟨sl,e1⟩:=I.base.slot b o e n hb hx
   exact⟨sl,(hs.2 b (Nat.ne_of_lt (Nat.lt_of_lt_of_le (Heap.lt_size e) (I.ok.cab x c hfn hc)))).trans e1⟩
  ·obtain⟨o',e1⟩:=I.base.there b o e hx
   exact⟨o',(hs.2 b (Nat.ne_of_lt (Nat.lt_of_lt_of_le (Heap.lt_size e) (I.ok.cab x c hfn hc)))).trans e1⟩
  ·by_cases hj:j=i
   ·subst hj
    rw[hi] at e1;cases e1
    rw[List.getElem?_set_self hiσ] at e2
    cases e2
    exact⟨u,r, .inr ⟨.inl hk,c,hc,hc'⟩⟩
   ·rw[List.getElem?_set_ne (Ne.symm hj)] at e2
    obtain⟨u',r',q⟩:=hl j y v' e1 e2 e3
    refine⟨u',r',?_⟩
    rcases q with q | ⟨k,c',e,z'⟩
    ·exact .inl q
    ·refine .inr ⟨k,c',e,z'.sameBut hs ?_⟩
     rintro rfl
     exact hj (GL hN e1 (I.ok.inj _ _ _ e hc▸hi))
  ·by_cases hcc:c'=c
   ·subst hcc;exact⟨_,hc'⟩
   ·obtain⟨w2,z2⟩:=I.cell y c' e
    exact⟨w2,z2.sameBut hs hcc⟩
  ·obtain⟨e,n,ne,nf,d⟩:=I.pin p hp
   refine⟨(hs.2 p.1 ?_).trans e,n,ne,nf,d⟩
   intro q
   rw[q,hoc] at e
   have q':oc=p.2:=Option.some.inj e
   exact d w' (by rw[←q'];exact hocd)
theorem QQ {M:Model}{A:Around}{E:Value->Shared->Prop}{i:Nat}{x:Str}{v:V}{u:Value}{Q:Unit->Shared->Prop}(I:Inv X pins σ H s)(hN:X.N.Nodup)(hi:X.N[i]?=some x)(hx:Loc X.env.scope x)(r:Yc v u)
  (h:∀s',Inv X pins (σ.set i (some v)) H s'->Q () s')(hf:X.fn x=true∨X.env.scope.names.lookup x=some .local:=by first |exact .inl rfl |exact .inr rfl |assumption):wpAny M A (storeName X.env x u) Q E s:=
 Kd I hN hi hx r (λs' I' _=>h s' I') hf
theorem Inv.call' {s':Shared}{ch:List Addr}(I:Inv X pins σ H s)(ho:s'.os=s.os)(u:Un (frs X.stack) ch H H' s.heap s'.heap)(hok:HOk X.prog X.w H' s'.heap)(hg:AllBare s'.gens)
  (hch:∀b∈ch,(b∈X.ex∨X.s₀.heap.objs.size<=b)/\b≠X.env.locals/\(∀x c,X.env.cells.lookup x=some c->c≠b)/\∀p∈X.pn++pins,p.1≠b):Inv X pins σ H' s':=by
 obtain⟨h',g',d',t',o'⟩:=s'
 have e:o'=s.os:=ho
 subst e
 exact I.call (g':=g') (t':=t') (d':=d') u hok hg hch
end
noncomputable abbrev XK:=Value->Option Addr->Hp->Prop
noncomputable abbrev St:=List (Option V)
noncomputable abbrev VK:=V->Hp->Prop
noncomputable abbrev TE:=St->Hp->VK->Prop
noncomputable abbrev TT:=St->Hp->(Bool->Hp->Prop)->Prop
noncomputable abbrev TA:=St->Hp->(List V->Hp->Prop)->Prop
structure Ends where
 nx:St->Hp->Prop
 rt:VK
 bk:St->Hp->Prop:=λ_ _=>False
 ct:St->Hp->Prop:=λ_ _=>False
noncomputable abbrev TS:=Ends->St->Hp->Prop
noncomputable def EP (X:Cx)(pins:List (Addr×Obj))(σ:St)(Q:VK)(u:Value)(s':Shared):Prop:=∃ v H',Inv X pins σ H' s'/\Yc v u/\Q v H'
noncomputable def TP (X:Cx)(pins:List (Addr×Obj))(σ:St)(Q:Bool->Hp->Prop)(b:Bool)(s':Shared):Prop:=∃ H',Inv X pins σ H' s'/\Q b H'
noncomputable def AP (X:Cx)(pins:List (Addr×Obj))(σ:St)(Q:List V->Hp->Prop)(us:List Value)(s':Shared):Prop:=∃ vs H',Inv X pins σ H' s'/\Yl vs us/\Q vs H'
noncomputable def SP (X:Cx)(pins:List (Addr×Obj))(D:Ends)(f:Flow)(s':Shared):Prop:=
 match f with
 | .next=>∃ σ' H',Inv X pins σ' H' s'/\D.nx σ' H'
 | .brk=>∃ σ' H',Inv X pins σ' H' s'/\D.bk σ' H'
 | .cont=>∃ σ' H',Inv X pins σ' H' s'/\D.ct σ' H'
 | .ret u=>∃ v σ' H',Inv X pins σ' H' s'/\Yc v u/\D.rt v H'
noncomputable def PE (X:Cx)(e:Expr)(t:TE):Prop:=
 ∀(pins:List (Addr×Obj)) (s:Shared) (σ:St) (H:Hp) (Q:VK),Inv X pins σ H s->t σ H Q->wpAny (model X.prog X.w) X.A (eval e X.env) (EP X pins σ Q) X.xe s
noncomputable def PT (X:Cx)(e:Expr)(t:TT):Prop:=
 ∀(pins:List (Addr×Obj)) (s:Shared) (σ:St) (H:Hp) (Q:Bool->Hp->Prop),Inv X pins σ H s->t σ H Q->wpAny (model X.prog X.w) X.A (isTrue e X.env (eval e X.env)) (TP X pins σ Q) X.xe s
noncomputable def PW (X:Cx)(e:Expr)(t:TT):Prop:=
 ∀(whole:Sem Value) (pins:List (Addr×Obj)) (s:Shared) (σ:St) (H:Hp) (Q:Bool->Hp->Prop),Inv X pins σ H s->t σ H Q->wpAny (model X.prog X.w) X.A (isTrue e X.env whole) (TP X pins σ Q) X.xe s
theorem PW.pt {X:Cx}{e:Expr}{t:TT}(h:PW X e t):PT X e t:=h _
noncomputable def PA (X:Cx)(es:List Expr)(t:TA):Prop:=
 ∀(pos:Pos) (pins:List (Addr×Obj)) (s:Shared) (σ:St) (H:Hp) (Q:List V->Hp->Prop),Inv X pins σ H s->t σ H Q->wpAny (model X.prog X.w) X.A (spliced (backTo pos (starEach es X.env))) (AP X pins σ Q) X.xe s
noncomputable def PS (X:Cx)(st:Stmt)(t:TS):Prop:=
 ∀(pins:List (Addr×Obj)) (s:Shared) (σ:St) (H:Hp) (D:Ends),Inv X pins σ H s->t D σ H->wpAny (model X.prog X.w) X.A (exec st X.env) (SP X pins D) X.xe s
noncomputable def PSs (X:Cx)(st:List Stmt)(t:TS):Prop:=
 ∀(pins:List (Addr×Obj)) (s:Shared) (σ:St) (H:Hp) (D:Ends),Inv X pins σ H s->t D σ H->wpAny (model X.prog X.w) X.A (execs st X.env) (SP X pins D) X.xe s
theorem thn {α:Type}{t:Sem α}{Q Q':α->Shared->Prop}{M:Model}{A:Around}{E:Value->Shared->Prop}{s:Shared}(h:wpAny M A t Q E s)(hQ:∀a s,Q a s->Q' a s):wpAny M A t Q' E s:=wpAny_mono h hQ λ_ _ x=>x
section
variable {X:Cx}
noncomputable def F5 (i:Nat):TE:=λσ H Q=>∃ v,σ[i]?=some (some v)/\Q v H
noncomputable def tC (v:V):TE:=λ_ H Q=>Q v H
theorem Ls {i:Nat}{x:Str}{pos:Pos}(hN:X.N[i]?=some x)(hv:Vis X.env.scope x)(hd:(x==("__debug__":Str))=false:=by decide)(hcd:(x==("__classdict__":Str))=false:=by decide):PE X (.Name x pos) (F5 i):=by
 intro pins s σ H Q I h
 obtain⟨v,e,h⟩:=h
 obtain⟨m,hn,hl⟩:=I.loc
 obtain⟨u,r,l⟩:=hl i x v hN e hv
 have fin:EP X pins σ Q u s:=⟨v,H,I,r,h⟩
 rcases l with⟨hk,hm⟩ | ⟨hk,c,hc,hcell⟩
 ·exact wpAny_Name (wpAny_loadName_local I.ok.kind hk hn hm fin) hd
 ·rcases hk with hk |hk
  ·exact wpAny_Name (wpAny_loadName_cell I.ok.kind hk hc hcell fin) hd
  ·exact wpAny_Name (wpAny_loadName_free I.ok.kind hk hc hcell fin hcd) hd
theorem Xf {i j pos}:PE X (.Constant (.int i) j pos) (tC (.int i)):=λ_ _ _ H _ I h=>wpAny_Constant_int ⟨.int i,H,I.tok _,⟨_,rfl⟩,h⟩
theorem Gi {b j pos}:PE X (.Constant (.bool b) j pos) (tC (.bl b)):=λ_ _ _ H _ I h=>Constant_bool ⟨.bl b,H,I,rfl,h⟩
noncomputable def Gl (X:Cx)(x:Str):Prop:=X.env.kindOf x=some .globalImplicit
theorem DE {E:Value->Shared->Prop}{pins:List (Addr×Obj)}{s:Shared}{σ:St}{H:Hp}{x:Str}{u:Value}{pos:Pos}{Q:Value->Shared->Prop}(I:Inv X pins σ H s)(hg:Gl X x)(hm:X.mg x=some u)(h:Q u s)
  (hd:(x==("__debug__":Str))=false:=by decide):wpAny (model X.prog X.w) X.A (eval (.Name x pos) X.env) Q E s:=
 Calls.Name_function_global I.ok.kind hg (Calls.loadGlobal_global (by rw[I.ok.glob];exact I.mod.glob.keeps I.bk) hm h) hd
theorem VU {E:Value->Shared->Prop}{pins:List (Addr×Obj)}{s:Shared}{σ:St}{H:Hp}{x:Str}{u:Value}{pos:Pos}{Q:Value->Shared->Prop}(I:Inv X pins σ H s)(hg:Gl X x)(hm:X.mg x=none)(hv:bootBuiltins x=some u)(h:Q u s)
  (hn:x≠ "__name__":=by decide)(hd:(x==("__debug__":Str))=false:=by decide):wpAny (model X.prog X.w) X.A (eval (.Name x pos) X.env) Q E s:=by
 obtain⟨mb,h1,h2⟩:=I.mod.blt
 exact Calls.Name_function_global I.ok.kind hg (Calls.loadGlobal_builtin (by rw[I.ok.glob];exact I.mod.glob.keeps I.bk) hm (by rw[I.ok.blt];exact h1.keeps I.bk) ((h2 x hn).trans hv) h) hd
theorem EC {x:Str}{v:V}{u:Value}{pos:Pos}(hg:Gl X x)(hm:X.mg x=some u)(r:Yc v u)(hd:(x==("__debug__":Str))=false:=by decide):PE X (.Name x pos) (tC v):=
 λ_ _ _ H _ I h=>DE I hg hm ⟨v,H,I,r,h⟩ hd
theorem Fm {x:Str}{v:V}{u:Value}{pos:Pos}(hg:Gl X x)(hm:X.mg x=none)(hv:bootBuiltins x=some u)(r:Yc v u)(hn:x≠ "__name__":=by decide)(hd:(x==("__debug__":Str))=false:=by decide):PE X (.Name x pos) (tC v):=
 λ_ _ _ H _ I h=>VU I hg hm hv ⟨v,H,I,r,h⟩ hn hd
variable {a b:Expr}{ta tb:TE}{pos:Pos}
noncomputable def PC (X:Cx)(op:CmpOp)(a b:Expr)(t:TE):Prop:=
 ∀(pins:List (Addr×Obj)) (s:Shared) (σ:St) (H:Hp) (Q:VK),Inv X pins σ H s->t σ H Q->
  wpAny (model X.prog X.w) X.A (eval a X.env) (λv s₁=>wpAny (model X.prog X.w) X.A (eval b X.env) (λu s₂=>wpAny (model X.prog X.w) X.A (compareOp op v u) (EP X pins σ Q) X.xe s₂) X.xe s₁) X.xe s
theorem BO (b:Expr){op:CmpOp}(h:op≠ .In)(h2:op≠ .NotIn):behindInMarks op b=false:=by
 have e1:(op==CmpOp.In)=false:=by cases op<;> first |rfl |exact absurd rfl h
 have e2:(op==CmpOp.NotIn)=false:=by cases op<;> first |rfl |exact absurd rfl h2
 cases b<;> simp[behindInMarks,e1,e2]
noncomputable def tB (t:TE):TT:=λσ H Q=>t σ H λx H1=>∃ c,x= .bl c/\Q c H1
theorem Lb {op:CmpOp}{t:TE}(h:PC X op a b t)(h1:behindInMarks op b=false:=by first |exact BO _ (by decide) (by decide) |rfl):PT X (.Compare a [op] [b] pos) (tB t):=by
 intro pins s σ H Q I hw
 refine wpAny_isTrue_Compare1 (thn (h pins s σ H _ I hw) λv s1 h1=>thn h1 λu s2 h2=>thn h2 λc s3 r9=>?_) h1
 obtain⟨x,H1,I1,r1,q1⟩:=r9
 obtain⟨d,rfl,q⟩:=q1
 cases r1
 exact wpAny_truthy_bool ⟨H1,I1,q⟩
theorem Gv {e:Expr}{t:TE}(h:PE X e t)(he:∀whole,isTrue e X.env whole=(do let v ←whole;standAt e.pos;holding [v] (truthy v)):=by intro _;rfl):PT X e (tB t):=by
 intro pins s σ H Q I hw
 refine isTrue_plain (thn (h pins s σ H _ I hw) λv s1 r9=>?_) (he _)
 obtain⟨x,H1,I1,r1,q1⟩:=r9
 obtain⟨d,rfl,q⟩:=q1
 cases r1
 exact wpAny_truthy_bool ⟨H1,I1,q⟩
variable {tA tB':TT}{rest:List Expr}
noncomputable def Ms (t u:TT):TT:=λσ H Q=>t σ H λc H1=>if c=true then u σ H1 Q else Q false H1
noncomputable def tOr (t u:TT):TT:=λσ H Q=>t σ H λc H1=>if c=true then Q true H1 else u σ H1 Q
noncomputable def Mo (t:TT):TT:=λσ H Q=>t σ H λc H1=>Q (!c) H1
theorem Fi (ha:PT X a tA):PW X (.BoolOp .And [a] pos) tA:=by
 intro wh pins s σ H Q I h
 refine isTrue_and (thn (ha pins s σ H Q I h) λc s1 e=>?_)
 cases c with
 |true=>exact isTrue_and_nil e
 |false=>exact e
theorem Eg (ha:PT X a tA):PW X (.BoolOp .Or [a] pos) tA:=by
 intro wh pins s σ H Q I h
 refine isTrue_or (thn (ha pins s σ H Q I h) λc s1 e=>?_)
 cases c with
 |false=>exact isTrue_or_nil e
 |true=>exact e
theorem B7 (ha:PT X a tA)(hb:PW X (.BoolOp .And (b::rest) pos) tB'):PW X (.BoolOp .And (a::b::rest) pos) (Ms tA tB'):=by
 intro wh pins s σ H Q I h
 refine isTrue_and (thn (ha pins s σ H _ I h) λc s1 r9=>?_)
 obtain⟨H1,I1,q1⟩:=r9
 cases c with
 |true=>exact hb wh pins s1 σ H1 Q I1 q1
 |false=>exact⟨H1,I1,q1⟩
theorem Lc (ha:PT X a tA)(hb:PW X (.BoolOp .Or (b::rest) pos) tB'):PW X (.BoolOp .Or (a::b::rest) pos) (tOr tA tB'):=by
 intro wh pins s σ H Q I h
 refine isTrue_or (thn (ha pins s σ H _ I h) λc s1 r9=>?_)
 obtain⟨H1,I1,q1⟩:=r9
 cases c with
 |true=>exact⟨H1,I1,q1⟩
 |false=>exact hb wh pins s1 σ H1 Q I1 q1
theorem Gq (ha:PT X a tA):PT X (.UnaryOp .Not a pos) (Mo tA):=by
 intro pins s σ H Q I h
 exact isTrue_not (ha pins s σ H (λc H1=>Q (!c) H1) I h)
noncomputable def Ip (ta tb:TE):TE:=λσ H Q=>ta σ H λx H1=>∃ c,x= .bl c/\if c=true then tb σ H1 Q else Q (.bl false) H1
noncomputable def Ix (ta:TE):TE:=λσ H Q=>ta σ H λx H1=>∃ c,x= .bl c/\Q (.bl (!c)) H1
theorem La {op}{t:TE}(h:PE X a t):PE X (.BoolOp op [a] pos) t:=λpins s σ H Q I hw=>BoolOp_one (h pins s σ H Q I hw)
theorem HY (ha:PE X a ta)(hb:PE X (.BoolOp .And (b::rest) pos) tb):PE X (.BoolOp .And (a::b::rest) pos) (Ip ta tb):=by
 intro pins s σ H Q I h
 refine BoolOp_and (thn (ha pins s σ H _ I h) λv s1 r9=>?_)
 obtain⟨x,H1,I1,r1,q1⟩:=r9
 obtain⟨c,rfl,q1⟩:=q1
 cases r1
 refine wpAny_truthy_bool ?_
 cases c with
 |true=>exact hb pins s1 σ H1 Q I1 q1
 |false=>exact⟨.bl false,H1,I1,rfl,q1⟩
theorem Li (ha:PE X a ta):PE X (.UnaryOp .Not a pos) (Ix ta):=by
 intro pins s σ H Q I h
 refine UnaryOp_ (thn (ha pins s σ H _ I h) λv s1 r9=>?_)
 obtain⟨x,H1,I1,r1,q1⟩:=r9
 obtain⟨c,rfl,q1⟩:=q1
 cases r1
 exact not_of (wpAny_truthy_bool ⟨.bl (!c),H1,I1,rfl,q1⟩)
noncomputable def tIf (t:TT)(ta tb:TE):TE:=λσ H Q=>t σ H λc H1=>if c=true then ta σ H1 Q else tb σ H1 Q
theorem Bs {c:Expr}(hc:PT X c tA)(ha:PE X a ta)(hb:PE X b tb):PE X (.IfExp c a b pos) (tIf tA ta tb):=by
 intro pins s σ H Q I h
 refine wpAny_IfExp (thn (hc pins s σ H _ I h) λd s1 r9=>?_)
 obtain⟨H1,I1,q1⟩:=r9
 cases d with
 |true=>exact ha pins s1 σ H1 Q I1 q1
 |false=>exact hb pins s1 σ H1 Q I1 q1
end
noncomputable def SqL (K:PySem.W.Frag)(H:Hp)(a:Addr)(xs:List V):Prop:=
 Rd H a (.lst xs)∨
  ∃(o:Obj) (its:Array Value) (n:Nat),K.lookup a=some o/\o.cls= .type "list" /\o.dict=none/\o.data= .seq its n/\its.size<=sizeLine/\Yl xs its.toList
noncomputable def SqT (K:PySem.W.Frag)(H:Hp)(a:Addr)(xs:List V):Prop:=
 Rd H a (.tup xs)∨
  ∃(o:Obj) (its:Array Value) (n:Nat),K.lookup a=some o/\o.cls= .type "tuple" /\o.data= .seq its n/\its.size<=sizeLine/\Yl xs its.toList
noncomputable def MP:Value->Option V
 | .none=>some .non
 | .bool b=>some (.bl b)
 | .int i _=>some (.int i)
 | .str x _=>some (.str x)
 | .bytes b _=>some (.byt b)
 | .float b _=>some (.flt b)
 | .ref a=>some (.ref a)
 | .type n=>some (.ty n)
 |_=>none
theorem Yc.abs {x:V}{u:Value}(r:Yc x u):MP u=some x:=by
 cases x with
 |non=>cases r;rfl
 |bl _=>cases r;rfl
 |int _=>obtain⟨t,rfl⟩:=r;rfl
 |str _=>obtain⟨t,rfl⟩:=r;rfl
 |byt _=>obtain⟨t,rfl⟩:=r;rfl
 |flt _=>obtain⟨t,rfl⟩:=r;rfl
 |ref _=>cases r;rfl
 |ty _=>cases r;rfl
theorem Yc.inj {x y:V}{u:Value}(r:Yc x u)(q:Yc y u):x=y:=Option.some.inj (r.abs.symm.trans q.abs)
theorem Yl.inj:∀{xs ys:List V}{us:List Value},Yl xs us->Yl ys us->xs=ys:=fun {xs ys us} p=>by
 induction p generalizing ys with
 |nil=>intro q;cases q;rfl
 |cons r _ ih=>intro q;cases q with |cons r' t'=>rw[r.inj r',ih t']
section
variable {X:Cx}{pins:List (Addr×Obj)}{σ:St}{H:Hp}{s:Shared}{a:Addr}{xs ys:List V}
theorem SqL.of {K:PySem.W.Frag}(h:H a=some (.lst xs)):SqL K H a xs:=.inl (.inl h)
theorem SqT.of {K:PySem.W.Frag}(h:H a=some (.tup xs)):SqT K H a xs:=.inl (.inl h)
theorem Inv.list (I:Inv X pins σ H s)(h:SqL X.K H a xs):∃its:List Value,Yl xs its/\PlainL s.heap a its.toArray/\xs.length<=sizeLine:=by
 rcases h with h | ⟨o,its,n,hk,hc,hd,hs,hz,r⟩
 ·obtain⟨z,its,n,r,e⟩:=h.ok I.hok
  exact⟨its,r,⟨_,n,e,rfl,rfl,rfl⟩,z⟩
 ·refine⟨its.toList,r,⟨o,n,I.kIn a o hk,hc,hd,by simpa using hs⟩,?_⟩
  have e:=r.length
  simp only[Array.length_toList] at e
  omega
theorem Inv.tuple (I:Inv X pins σ H s)(h:SqT X.K H a xs):∃its:List Value,Yl xs its/\IsTup s.heap a its.toArray/\xs.length<=sizeLine:=by
 rcases h with h | ⟨o,its,n,hk,hc,hs,hz,r⟩
 ·obtain⟨z,its,r,p⟩:=h.ok I.hok
  exact⟨its,r,p.t,z⟩
 ·refine⟨its.toList,r,⟨o,I.kIn a o hk,hc,n,by simpa using hs⟩,?_⟩
  have e:=r.length
  simp only[Array.length_toList] at e
  omega
theorem Inv.list_inj (I:Inv X pins σ H s)(h:SqL X.K H a xs)(h':SqL X.K H a ys):xs=ys:=by
 obtain⟨its,r,⟨o,n,e,_,_,d⟩,_⟩:=I.list h
 obtain⟨its',r',⟨o',n',e',_,_,d'⟩,_⟩:=I.list h'
 rw[e] at e';cases e'
 rw[d] at d'
 injection d' with d1 _
 have:its=its':=by simpa using congrArg Array.toList d1
 subst this
 exact r.inj r'
end
noncomputable abbrev Cx.wish (X:Cx)(E:Value->Shared->Prop):Cx:={X with xe:=E}
noncomputable abbrev Cx.nox (X:Cx):Cx:=X.wish λ_ _=>False
theorem Cx.Ok.wish {X:Cx}(ok:X.Ok)(E:Value->Shared->Prop):(X.wish E).Ok:=
 ⟨ok.mod,ok.kind,ok.glob,ok.blt,ok.above,ok.inj,ok.has,ok.cab,ok.hd,ok.frames,ok.stk,ok.exf,ok.bs,ok.bsz,ok.noex,ok.exfs,ok.funs,ok.frf⟩
theorem Cx.Ok.unwish {X:Cx}{E:Value->Shared->Prop}(ok:(X.wish E).Ok):X.Ok:=
 ⟨ok.mod,ok.kind,ok.glob,ok.blt,ok.above,ok.inj,ok.has,ok.cab,ok.hd,ok.frames,ok.stk,ok.exf,ok.bs,ok.bsz,ok.noex,ok.exfs,ok.funs,ok.frf⟩
section
variable {X:Cx}{pins:List (Addr×Obj)}{σ:St}{H:Hp}{s:Shared}{E:Value->Shared->Prop}
theorem Inv.wish (I:Inv X pins σ H s)(E:Value->Shared->Prop):Inv (X.wish E) pins σ H s:=⟨I.ok.wish E,I.os,I.bare,I.base,I.loc,I.cell,I.free,I.freeC,I.pin,I.hok,I.len⟩
theorem Inv.unwish (I:Inv (X.wish E) pins σ H s):Inv X pins σ H s:=⟨I.ok.unwish,I.os,I.bare,I.base,I.loc,I.cell,I.free,I.freeC,I.pin,I.hok,I.len⟩
theorem SP.unwish {D:Ends}{f:Flow}{s':Shared}(h:SP (X.wish E) pins D f s'):SP X pins D f s':=by
 cases f with
 |next=>obtain⟨σ',H',I,q⟩:=h;exact⟨σ',H',I.unwish,q⟩
 |brk=>obtain⟨σ',H',I,q⟩:=h;exact⟨σ',H',I.unwish,q⟩
 |cont=>obtain⟨σ',H',I,q⟩:=h;exact⟨σ',H',I.unwish,q⟩
 |ret u=>obtain⟨v,σ',H',I,r,q⟩:=h;exact⟨v,σ',H',I.unwish,r,q⟩
theorem PE.nox {e:Expr}{t:TE}(h:PE X.nox e t):PE X e t:=λpins s σ H Q I hw=>
 wpAny_mono (h pins s σ H Q (I.wish _) hw) (λ_ _ r9=>by obtain⟨v,H',I',r,q⟩:=r9;exact⟨v,H',I'.unwish,r,q⟩) λ_ _ z=>False.elim z
theorem PT.nox {e:Expr}{t:TT}(h:PT X.nox e t):PT X e t:=λpins s σ H Q I hw=>
 wpAny_mono (h pins s σ H Q (I.wish _) hw) (λ_ _ r9=>by obtain⟨H',I',q⟩:=r9;exact⟨H',I'.unwish,q⟩) λ_ _ z=>False.elim z
theorem PSs.nox {st:List Stmt}{t:TS}(h:PSs X.nox st t):PSs X st t:=λpins s σ H D I hw=>
 wpAny_mono (h pins s σ H D (I.wish _) hw) (λ_ _ q=>q.unwish) λ_ _ z=>False.elim z
end
section
variable {X:Cx}{st:Stmt}{rest:List Stmt}{t u:TS}{e:Expr}{te:TE}{pos:Pos}
noncomputable def GU:TS:=λD σ H=>D.nx σ H
noncomputable def JC (t u:TS):TS:=λD σ H=>t {D with nx:=u D} σ H
theorem Xj:PSs X [] GU:=λ_ _ σ H _ I h=>wpAny_execs_nil ⟨σ,H,I,h⟩
theorem Xd (h1:PS X st t)(h2:PSs X rest u):PSs X (st::rest) (JC t u):=by
 intro pins s σ H D I h
 refine wpAny_execs_cons (thn (h1 pins s σ H {D with nx:=u D} I h) λf s1 q=>?_)
 cases f with
 |next=>
  obtain⟨σ',H',I',q⟩:=q
  exact h2 pins s1 σ' H' D I' q
 |ret v=>exact q
 |brk=>exact q
 |cont=>exact q
theorem Inv.quiet {pins:List (Addr×Obj)}{σ:St}{H:Hp}{s:Shared}(I:Inv X pins σ H s):interactive X.env=false:=by simp[interactive,I.ok.kind]
noncomputable def Bb (te:TE):TS:=λD σ H=>te σ H λ_ H1=>D.nx σ H1
theorem YZ (he:PE X e te)(hs:swapsWith e none pos.line X.env=pure false:=by rfl):PS X (.Expr e pos) (Bb te):=by
 intro pins s σ H D I h
 exact wpAny_Expr_any (thn (he pins s σ H _ I h) λv s1 r9=>by obtain⟨x,H1,I1,r1,q1⟩:=r9;exact⟨σ,H1,I1,q1⟩) I.quiet hs
noncomputable def LA (te:TE):TS:=λD σ H=>te σ H D.rt
theorem XJ (he:PE X e te):PS X (.Return (some e) pos) (LA te):=by
 intro pins s σ H D I h
 exact wpAny_Return_some (thn (he pins s σ H _ I h) λv s1 r9=>by obtain⟨x,H1,I1,r1,q1⟩:=r9;exact⟨x,σ,H1,I1,r1,q1⟩)
noncomputable def HJ (c:TT)(t u:TS):TS:=λD σ H=>c σ H λb H1=>if b=true then t D σ H1 else u D σ H1
theorem ZI {c:Expr}{a b:List Stmt}{tc:TT}(hc:PT X c tc)(ha:PSs X a t)(hb:PSs X b u):PS X (.If c a b pos) (HJ tc t u):=by
 intro pins s σ H D I h
 refine wpAny_If (thn (hc pins s σ H _ I h) λd s1 r9=>?_)
 obtain⟨H1,I1,q1⟩:=r9
 cases d with
 |true=>exact ha pins s1 σ H1 D I1 q1
 |false=>exact hb pins s1 σ H1 D I1 q1
noncomputable def Lw:TS:=λ_ _ _=>False
theorem Uy:PS X st Lw:=λ_ _ _ _ _ _ h=>h.elim
end
noncomputable abbrev TG:=V->St->Hp->(St->Hp->Prop)->Prop
noncomputable abbrev TGs:=List V->St->Hp->(St->Hp->Prop)->Prop
noncomputable def PG (X:Cx)(target:Expr)(t:TG):Prop:=
 ∀(pins:List (Addr×Obj)) (s:Shared) (σ:St) (H:Hp) (v:V) (u:Value) (Q:St->Hp->Prop),Inv X pins σ H s->Yc v u->t v σ H Q->
  wpAny (model X.prog X.w) X.A (assign target X.env u) (λ_ s'=>∃ σ' H',Inv X pins σ' H' s'/\Q σ' H') X.xe s
noncomputable def PGs (X:Cx)(ts:List Expr)(t:TGs):Prop:=
 ∀(pins:List (Addr×Obj)) (s:Shared) (σ:St) (H:Hp) (vs:List V) (us:List Value) (Q:St->Hp->Prop),Inv X pins σ H s->Yl vs us->t vs σ H Q->
  wpAny (model X.prog X.w) X.A (assignInOrder ((assignEach ts X.env).map (·.2)) us) (λ_ s'=>∃ σ' H',Inv X pins σ' H' s'/\Q σ' H') X.xe s
noncomputable abbrev HU:=V->V->V->Hp->(Hp->Prop)->Prop
noncomputable def LN (X:Cx)(t:HU):Prop:=
 ∀(pins:List (Addr×Obj)) (s:Shared) (σ:St) (H:Hp) (o i v:V) (ov iv u:Value) (Q:Hp->Prop),Inv X pins σ H s->Yc o ov->Yc i iv->Yc v u->t o i v H Q->
  wpAny (model X.prog X.w) X.A (setItem ov iv u) (λ_ s'=>∃ H',Inv X pins σ H' s'/\Q H') X.xe s
noncomputable abbrev TIp:=V->V->Hp->VK->Prop
noncomputable def PIp (X:Cx)(op:Operator)(t:TIp):Prop:=
 ∀(pins:List (Addr×Obj)) (s:Shared) (σ:St) (H:Hp) (x y:V) (v u:Value) (Q:VK),Inv X pins σ H s->Yc x v->Yc y u->t x y H Q->
  wpAny (model X.prog X.w) X.A (inplaceOp op v u) (EP X pins σ Q) X.xe s
section
variable {X:Cx}{pos:Pos}
noncomputable def YU (i:Nat):TG:=λv σ H Q=>Q (σ.set i (some v)) H
theorem Xq {i:Nat}{x:Str}(hN:X.N.Nodup)(hi:X.N[i]?=some x)(hx:Loc X.env.scope x)(hf:X.fn x=true∨X.env.scope.names.lookup x=some .local:=by first |exact .inl rfl |exact .inr rfl |assumption):PG X (.Name x pos) (YU i):=by
 intro pins s σ H v u Q I r h
 exact wpAny_assign_Name (QQ I hN hi hx r (λs' I'=>⟨_,H,I',h⟩) hf)
noncomputable def B6:TGs:=λvs σ H Q=>vs=[]/\Q σ H
noncomputable def Zq (t:TG)(u:TGs):TGs:=λvs σ H Q=>∃ v r,vs=v::r/\t v σ H λσ' H'=>u r σ' H' Q
theorem Y1:PGs X [] B6:=by
 intro pins s σ H vs us Q I r h
 obtain⟨e,h⟩:=h
 subst e
 cases r
 exact assignInOrder_nil ⟨σ,H,I,h⟩
theorem Xu {e:Expr}{es:List Expr}{t:TG}{u:TGs}(h1:PG X e t)(h2:PGs X es u)
  (hs:(assignEach (e::es) X.env).map (·.2)=assign e X.env::(assignEach es X.env).map (·.2):=by rfl):PGs X (e::es) (Zq t u):=by
 intro pins s σ H vs us Q I r h
 obtain⟨v,vr,e1,h⟩:=h
 subst e1
 cases r with
 |cons r rr=>
  rw[hs]
  refine assignInOrder_cons (thn (h1 pins s σ H _ _ _ I r h) λ_ s1 r9=>?_)
  obtain⟨σ1,H1,I1,q1⟩:=r9
  exact h2 pins s1 σ1 H1 _ _ Q I1 rr q1
noncomputable def Bc (K:PySem.W.Frag)(n:Nat)(t:TGs):TG:=λv σ H Q=>∃ a xs,v= .ref a/\SqT K H a xs/\xs.length=n/\t xs σ H Q
theorem QG {es:List Expr}{k:Nat}{t:TGs}{n:Nat}(hc:X.calm=true)(h:PGs X es t)
  (hn:(assignEach es X.env).length=n:=by rfl)(hst:(assignEach es X.env).findIdx? (·.1)=none:=by rfl):PG X (.Tuple es k pos) (Bc X.K n t):=by
 intro pins s σ H v u Q I r hw
 obtain⟨a,xs,e1,hq,hl,hw⟩:=hw
 subst e1
 cases r
 obtain⟨its,rv,ht,hz⟩:=I.tuple hq
 refine assign_Tuple_tuple (I.ok.hd hc) ht (by simp[hn, ←hl,rv.length]) hst λh' hx=>?_
 have I1:Inv X pins σ H {s with heap:=h'}:=I.kept (t':=s.toks) λb o e=>hx b o (Nat.ne_of_lt (Heap.lt_size e)) e
 exact h pins _ σ H xs _ Q I1 (by simpa using rv) hw
noncomputable def Mw (to ti:TE)(t:HU):TG:=λv σ H Q=>to σ H λo H1=>ti σ H1 λi H2=>t o i v H2 λH3=>Q σ H3
theorem DI {o i:Expr}{to ti:TE}{t:HU}(ho:PE X o to)(hi:PE X i ti)(hs:LN X t)
  (ha:∀v,assign (.Subscript o i pos) X.env v=(do
   let ov ←holding [v] (eval o X.env)
   let iv ←holding [v,ov] (eval i X.env)
   standAt pos
   holding [v,ov,iv] (setItem ov iv v)
   release [v,ov,iv] []):=by intro _;rfl):PG X (.Subscript o i pos) (Mw to ti t):=by
 intro pins s σ H v u Q I r h
 rw[ha]
 refine wpAny_bind (wpAny_holding (thn (ho pins s σ H _ I h) λov s1 r9=>?_))
 obtain⟨x,H1,I1,r1,q1⟩:=r9
 refine wpAny_bind (wpAny_holding (thn (hi pins s1 σ H1 _ I1 q1) λiv s2 r9=>?_))
 obtain⟨y,H2,I2,r2,q2⟩:=r9
 refine wpAny_bind (wpAny_standAt (wpAny_bind (wpAny_holding (thn (hs pins s2 σ H2 x y v ov iv u _ I2 r1 r2 r q2) λ_ s3 r9=>?_))))
 obtain⟨H3,I3,q3⟩:=r9
 exact wpAny_release ⟨σ,H3,I3,q3⟩
noncomputable def Ei (te:TE)(g:TG):TS:=λD σ H=>te σ H λx H1=>g x σ H1 D.nx
theorem Vx {tg e:Expr}{te:TE}{g:TG}(he:PE X e te)(hg:PG X tg g)(hs:swapsWithSole [tg] e pos.line X.env=pure false:=by rfl)(hw:swappedStores [tg] e X.env=pure none:=by rfl)
  (h1:(assignEach [tg] X.env).map (·.2)=[assign tg X.env]:=by rfl):PS X (.Assign [tg] e pos) (Ei te g):=by
 intro pins s σ H D I h
 refine wpAny_Assign_stores (thn (he pins s σ H _ I h) λv s1 r9=>?_) hs hw
 obtain⟨x,H1,I1,r1,q1⟩:=r9
 rw[h1]
 exact thn (hg pins s1 σ H1 x v _ I1 r1 q1) λ_ s2 q=>q
theorem Xp {i:Nat}{x:Str}{e:Expr}{te:TE}{pos':Pos}(hN:X.N.Nodup)(hi:X.N[i]?=some x)(hx:Loc X.env.scope x)(he:PE X e te)(hs:swapsWith e (some (.Name x pos')) pos.line X.env=pure false:=by rfl)(hf:X.fn x=true∨X.env.scope.names.lookup x=some .local:=by first |exact .inl rfl |exact .inr rfl |assumption):
  PS X (.Assign [.Name x pos'] e pos) (Ei te (YU i)):=by
 intro pins s σ H D I h
 refine wpAny_Assign_Name (thn (he pins s σ H _ I h) λv s1 r9=>?_) hs
 obtain⟨y,H1,I1,r1,q1⟩:=r9
 exact QQ I1 hN hi hx r1 (λs2 I2=>⟨_,H1,I2,q1⟩) hf
noncomputable def MB (i j:Nat)(ta:TA):TS:=λD σ H=>ta σ H λvs H1=>∃ v w,vs=[v,w]/\D.nx ((σ.set i (some v)).set j (some w)) H1
theorem H9 {i j:Nat}{x y:Str}{a b:Expr}{ta:TA}{px py pt:Pos}{kt k2 pt2}(hc:X.calm=true)(hN:X.N.Nodup)(hi:X.N[i]?=some x)(hj:X.N[j]?=some y)(hij:i≠j)
  (hx:X.env.scope.names.lookup x=some .local)(hy:X.env.scope.names.lookup y=some .local)(ha:PA X [a,b] ta)
  (hw:swappedStores [.Tuple [.Name x px, .Name y py] kt pt] (.Tuple [a,b] k2 pt2) X.env=pure (some [x,y]))
  (hs:swapsWithSole [.Tuple [.Name x px, .Name y py] kt pt] (.Tuple [a,b] k2 pt2) pos.line X.env=pure false:=by rfl):
  PS X (.Assign [.Tuple [.Name x px, .Name y py] kt pt] (.Tuple [a,b] k2 pt2) pos) (MB i j ta):=by
 intro pins s σ H D I h
 rw[exec_Assign_arm]
 refine wpAny_bind (wpAny_standAt ?_)
 rw[hs]
 refine wpAny_bind (wpAny_pure ?_)
 rw[if_neg (by decide)]
 refine wpAny_bind (Tuple_ (thn (ha _ pins s σ H _ I h) λus s1 r9=>?_))
 obtain⟨vs,H1,I1,r1,q1⟩:=r9
 obtain⟨v,w,e1,q1⟩:=q1
 subst e1
 obtain⟨u1,u2,rfl,rv,rw'⟩:∃u1 u2,us=[u1,u2]/\Yc v u1/\Yc w u2:=by
  cases r1 with
  |cons p q=>
   cases q with
   |cons p' q'=>
    cases q'
    exact⟨_,_,rfl,p,p'⟩
 refine wpAny_newObj_type ?_ (by show 2<=sizeLine;decide)
 have I2:Inv X pins σ H1 {s1 with heap:=s1.heap.push {cls:=.type "tuple",data:=.seq [u1,u2].toArray}}:=I1.kept (t':=s1.toks) λb o e=>Heap.get?_push_of_some _ e
 rw[hw]
 refine wpAny_bind (wpAny_pure ?_)
 show wpAny (model X.prog X.w) X.A (do rule "assign.swapped-stores";let items ←unpackItems (.ref s1.heap.objs.size) 2 none;assignInOrder [λv=>bindName X.env y v,λv=>bindName X.env x v] items.reverse;pure Flow.next) _ _ _
 refine wpAny_bind (wpAny_rule (wpAny_bind (unpackItems_tuple (items:=#[u1,u2]) (I.ok.hd hc) (IsTup.new s1.heap _) λh' hx'=>?_)))
 have I3:=I2.kept (h':=h') (t':=s1.toks) λb o e=>hx' b o (Nat.ne_of_lt (Heap.lt_size e)) e
 show wpAny _ _ (assignInOrder [λv=>bindName X.env y v,λv=>bindName X.env x v] [u2,u1] >>= λ_=>pure Flow.next) _ _ _
 refine wpAny_bind (assignInOrder_cons (wpAny_bindName (QQ I3 hN hj (.inl hy) rw' (λs2 I4=>?_) (.inr hy))))
 refine assignInOrder_cons (wpAny_bindName (QQ I4 hN hi (.inl hx) rv (λs3 I5=>assignInOrder_nil (wpAny_pure ?_)) (.inr hx)))
 rw[List.set_comm _ _ (Ne.symm hij)] at I5
 exact⟨_,H1,I5,q1⟩
noncomputable def Lz (i:Nat)(te:TE)(ti:TIp):TS:=λD σ H=>∃ x,σ[i]?=some (some x)/\te σ H λy H1=>ti x y H1 λz H2=>D.nx (σ.set i (some z)) H2
theorem Kw {i:Nat}{x:Str}{e:Expr}{te:TE}{op:Operator}{ti:TIp}{pos':Pos}(hN:X.N.Nodup)(hi:X.N[i]?=some x)(hx:Loc X.env.scope x)(he:PE X e te)(ho:PIp X op ti)(hf:X.fn x=true∨X.env.scope.names.lookup x=some .local:=by first |exact .inl rfl |exact .inr rfl |assumption):
  PS X (.AugAssign (.Name x pos') op e pos) (Lz i te ti):=by
 intro pins s σ H D I h
 obtain⟨v,e1,h⟩:=h
 obtain⟨m,hn,hl⟩:=I.loc
 have vis:Vis X.env.scope x:=by rcases hx with k |k;exact .inl k;exact .inr (.inl k)
 obtain⟨u,r,l⟩:=hl i x v hi e1 vis
 refine wpAny_AugAssign_Name ?_
 have go:wpAny (model X.prog X.w) X.A (eval e X.env) (λw s₂=>wpAny (model X.prog X.w) X.A (inplaceOp op u w) (λr s₃=>wpAny (model X.prog X.w) X.A (storeName X.env x r) (λ_=>SP X pins D .next) X.xe s₃) X.xe s₂) X.xe s:=by
  refine thn (he pins s σ H _ I h) λw s1 r9=>?_
  obtain⟨y,H1,I1,r1,q1⟩:=r9
  refine thn (ho pins s1 σ H1 v y u w _ I1 r r1 q1) λz s2 r9=>?_
  obtain⟨zv,H2,I2,r2,q2⟩:=r9
  exact QQ I2 hN hi hx r2 (λs3 I3=>⟨_,H2,I3,q2⟩) hf
 rcases l with⟨hk,hm⟩ | ⟨hk,c,hc,hcell⟩
 ·exact wpAny_loadName_local I.ok.kind hk hn hm go
 ·rcases hk with hk |hk
  ·exact wpAny_loadName_cell I.ok.kind hk hc hcell go
  ·rcases hx with k |k
   ·have:X.env.scope.names.lookup x=some .free:=hk
    rw[k] at this;cases this
   ·have:X.env.scope.names.lookup x=some .free:=hk
    rw[k] at this;cases this
noncomputable def Ia (to ti te:TE)(tget:V->V->Hp->VK->Prop)(tip:TIp)(tset:HU):TS:=λD σ H=>to σ H λo H1=>ti σ H1 λi H2=>tget o i H2 λx H3=>te σ H3 λy H4=>tip x y H4 λz H5=>tset o i z H5 λH6=>D.nx σ H6
noncomputable def Ml (X:Cx)(t:V->V->Hp->VK->Prop):Prop:=
 ∀(pins:List (Addr×Obj)) (s:Shared) (σ:St) (H:Hp) (o i:V) (ov iv:Value) (Q:VK),Inv X pins σ H s->Yc o ov->Yc i iv->t o i H Q->
  wpAny (model X.prog X.w) X.A (getItem ov iv) (EP X pins σ Q) X.xe s
theorem KY {o i e:Expr}{to ti te:TE}{tget:V->V->Hp->VK->Prop}{tip:TIp}{tset:HU}{op:Operator}{tpos:Pos}(ho:PE X o to)(hi:PE X i ti)(hg:Ml X tget)(he:PE X e te)(hp:PIp X op tip)(hs:LN X tset)
  (ha:∀ov iv new,augStore i ov iv new=(do holding [new,ov,iv] (setItem ov iv new);release [new,ov,iv] [];pure .next):=by intros;rfl):PS X (.AugAssign (.Subscript o i tpos) op e pos) (Ia to ti te tget tip tset):=by
 intro pins s σ H D I h
 refine wpAny_AugAssign_SubscriptAny (thn (ho pins s σ H _ I h) λov s1 r9=>?_) ha
 obtain⟨x1,H1,I1,r1,q1⟩:=r9
 refine thn (hi pins s1 σ H1 _ I1 q1) λiv s2 r9=>?_
 obtain⟨x2,H2,I2,r2,q2⟩:=r9
 refine thn (hg pins s2 σ H2 x1 x2 ov iv _ I2 r1 r2 q2) λold s3 r9=>?_
 obtain⟨x3,H3,I3,r3,q3⟩:=r9
 refine thn (he pins s3 σ H3 _ I3 q3) λv s4 r9=>?_
 obtain⟨x4,H4,I4,r4,q4⟩:=r9
 refine thn (hp pins s4 σ H4 x3 x4 old v _ I4 r3 r4 q4) λnew s5 r9=>?_
 obtain⟨x5,H5,I5,r5,q5⟩:=r9
 exact thn (hs pins s5 σ H5 x1 x2 x5 ov iv new _ I5 r1 r2 r5 q5) λ_ s6 r9=>by obtain⟨H6,I6,q6⟩:=r9;exact⟨σ,H6,I6,q6⟩
noncomputable def ipI (f:Int->Int->Int):TIp:=λx y H Q=>∃ i j,x= .int i/\y= .int j/\Q (.int (f i j)) H
theorem Kl:PIp X .Add (ipI λi j=>i+j):=by
 intro pins s σ H x y v u Q I r1 r2 h
 obtain⟨i,j,e1,e2,q⟩:=h
 subst e1;subst e2
 obtain⟨t,rfl⟩:=r1
 obtain⟨t',rfl⟩:=r2
 exact iadd_int ⟨.int _,H,I.tok _,⟨_,rfl⟩,q⟩
theorem Lq:PIp X .Sub (ipI λi j=>i-j):=by
 intro pins s σ H x y v u Q I r1 r2 h
 obtain⟨i,j,e1,e2,q⟩:=h
 subst e1;subst e2
 obtain⟨t,rfl⟩:=r1
 obtain⟨t',rfl⟩:=r2
 exact isub_int ⟨.int _,H,I.tok _,⟨_,rfl⟩,q⟩
end
section
variable {X:Cx}{pos:Pos}
noncomputable def Cn (c:TT)(tb:TS):TS:=λD σ H=>∃ W:Nat->St->Hp->Prop,(∃m,W m σ H)/\∀m σ H,W m σ H->
 c σ H λb H1=>if b=true then ∃N:St->Hp->Prop,(∀σ' H',N σ' H'->∃m',m'<m/\W m' σ' H')/\tb {D with nx:=N,ct:=N,bk:=D.nx} σ H1 else D.nx σ H1
theorem JL {c:Expr}{body:List Stmt}{tc:TT}{tb:TS}(hp:PassesOwn (model X.prog X.w) X.A X.env X.xe)(hc:PT X c tc)(hb:PSs X body tb):PS X (.While c body [] pos) (Cn tc tb):=by
 intro pins s σ H D I h
 obtain⟨W,⟨m0,w0⟩,turn⟩:=h
 refine wpAny_While (codeAny_whileLoop (λn s'=>∃ σ' H',Inv X pins σ' H' s'/\W n σ' H') ?_ m0 ⟨σ,H,I,w0⟩)
 rintro n s1 ⟨σ1,H1,I1,w1⟩
 refine wpAny_passesOwn hp (thn (hc pins s1 σ1 H1 _ I1 (turn n σ1 H1 w1)) λb s2 r9=>?_)
 obtain⟨H2,I2,q2⟩:=r9
 cases b with
 |true=>
  obtain⟨N,hN,q2⟩:=q2
  rw[if_pos rfl]
  refine wpAny_passesOwn hp (thn (hb pins s2 σ1 H2 _ I2 q2) λf s3 q3=>?_)
  cases f with
  |next=>
   obtain⟨σ3,H3,I3,n3⟩:=q3
   obtain⟨m',hm,w3⟩:=hN σ3 H3 n3
   exact⟨m',hm,σ3,H3,I3,w3⟩
  |cont=>
   obtain⟨σ3,H3,I3,n3⟩:=q3
   obtain⟨m',hm,w3⟩:=hN σ3 H3 n3
   exact⟨m',hm,σ3,H3,I3,w3⟩
  |brk=>exact q3
  |ret v=>exact q3
 |false=>
  rw[if_neg Bool.false_ne_true]
  exact wpAny_execs_nil ⟨σ1,H2,I2,q2⟩
end
structure It where
 go:Nat->Hp->Prop
 yld:Nat->Hp->V->Hp->Prop
 stop:Nat->Hp->Prop
noncomputable def Ga (X:Cx)(pins:List (Addr×Obj))(H:Hp)(b:Addr):Prop:=
 H b=none/\b≠X.env.locals/\b∉X.fs/\(b∈X.ex∨X.s₀.heap.objs.size<=b)/\(∀x c,X.env.cells.lookup x=some c->c≠b)/\∀p∈X.pn++pins,p.1≠b
theorem Inv.fpOk {X:Cx}{pins:List (Addr×Obj)}{σ:St}{H H':Hp}{s:Shared}{b:Addr}(I:Inv X pins σ H s)(hb:s.heap.objs.size<=b)(hn:H' b=none):Ga X pins H' b:=by
 refine⟨hn,Nat.ne_of_gt (Nat.lt_of_lt_of_le I.lt hb),I.nofs hb, .inr (Nat.le_trans I.sz hb),λx c e z=>?_,λp hp z=>?_⟩
 ·obtain⟨v,q⟩:=I.cell x c e
  exact absurd (Nat.lt_of_lt_of_le q.lt (by rw[z];exact hb)) (Nat.lt_irrefl _)
 ·exact absurd (Nat.lt_of_lt_of_le (Heap.lt_size (I.pin p hp).1) (by rw[z];exact hb)) (Nat.lt_irrefl _)
structure Turn (P:Program)(w:World)(K:PySem.W.Frag)(tg:Expr)(J:It)(fp:List Addr)(it:Addr)(tn:Nat->Heap->Prop):Prop where
 mem:it∈fp
 obj:∀i h,tn i h->∀b∈fp,∃o,h.get? b=some o/\∀v,o.data≠ .cell v
 keep:∀i h h',tn i h->(∀b∈fp,∀o,h.get? b=some o->h'.get? b=some o)->tn i h'
 item:∀(X:Cx),X.prog=P->X.w=w->X.K=K->X.calm=true->∀(i:Nat) (pins:List (Addr×Obj)) (s:Shared) (σ:St) (H:Hp) (E:Value->Shared->Prop),Inv X pins σ H s->(∀b∈fp,Ga X pins H b)->tn i s.heap->J.go i H->
  wpAny (model P w) X.A (pyNext (.ref it)) (λr s1=>∃ u,r=some u/\
   wpAny (model P w) X.A (letOwnedTupleGo tg (.ref it) u) (λ_ s2=>∃ x H',Inv X pins σ H' s2/\Yc x u/\J.yld i H x H'/\tn (i+1) s2.heap/\∀b∈fp,H' b=none) E s1) E s
 done:∀(X:Cx),X.prog=P->X.w=w->X.K=K->X.calm=true->∀(i:Nat) (pins:List (Addr×Obj)) (s:Shared) (σ:St) (H:Hp) (E:Value->Shared->Prop),Inv X pins σ H s->(∀b∈fp,Ga X pins H b)->tn i s.heap->J.stop i H->
  wpAny (model P w) X.A (pyNext (.ref it)) (λr s1=>r=none/\Inv X pins σ H s1) E s
 self:∀(A:Around) (i:Nat) (s:Shared) (Q:Value->Shared->Prop) (E:Value->Shared->Prop),tn i s.heap->Q (.ref it) s->wpAny (model P w) A (pyIter (.ref it)) Q E s
noncomputable abbrev TI:=St->Hp->(It->Hp->Prop)->Prop
noncomputable def PIE (X:Cx)(pins:List (Addr×Obj))(σ:St)(tg:Expr)(R:It->Hp->Prop)(itv:Value)(s2:Shared):Prop:=
 ∃(it:Addr) (fp:List Addr) (tn:Nat->Heap->Prop) (J:It) (H':Hp),itv= .ref it/\Inv X pins σ H' s2/\Turn X.prog X.w X.K tg J fp it tn/\tn 0 s2.heap/\(∀b∈fp,Ga X pins H' b)/\R J H'
noncomputable def PI (X:Cx)(tg iter:Expr)(wi:TI):Prop:=
 ∀(pins:List (Addr×Obj)) (s:Shared) (σ:St) (H:Hp) (R:It->Hp->Prop),Inv X pins σ H s->wi σ H R->
  wpAny (model X.prog X.w) X.A (eval iter X.env) (λv s1=>wpAny (model X.prog X.w) X.A (pyIter v) (PIE X pins σ tg R) X.xe s1) X.xe s
theorem HZ {M:Model}{A:Around}{E:Value->Shared->Prop}{s:Shared}{tg:Expr}{it:Addr}{u:Value}{o:Obj}{n:String}{vs:Array Value}{Q:Unit->Shared->Prop}(ho:s.heap.get? it=some o)(hc:o.cls= .type n)(hd:o.data= .fields vs)
    (hn: ["enumerate","zip","dict_itemiterator","dict_reverseitemiterator","odict_iterator","itertools.zip_longest","itertools.pairwise"].contains n=false)(hQ:Q () s):wpAny M A (letOwnedTupleGo tg (.ref it) u) Q E s:=by
  unfold letOwnedTupleGo
  cases tg<;> first
    |exact wpAny_pure hQ
    | (cases u<;> first
        |exact wpAny_pure hQ
        | (refine wpAny_bind (wpAny_load ho ?_)
           rw[hc,hd]
           show wpAny M A (if(["enumerate","zip","dict_itemiterator","dict_reverseitemiterator","odict_iterator","itertools.zip_longest","itertools.pairwise"].contains n&&vs[0]?==some (rawInt _))=true then _ else _) Q E s
           rw[if_neg (by intro h;rw[hn,Bool.false_and] at h;cases h)]
           exact wpAny_pure hQ))
noncomputable def Itl (K:PySem.W.Frag)(a:Addr):It:=
 ⟨λi H=>∃ xs x,SqL K H a xs/\xs[i]?=some x,λi H x H'=>H'=H/\∀xs,SqL K H a xs->xs[i]?=some x,λi H=>∃ xs,SqL K H a xs/\xs.length<=i⟩
noncomputable def Itr (lo:Int)(n:Nat):It:=⟨λi _=>i<n,λi H x H'=>H'=H/\x= .int (lo+i),λi _=>n<=i⟩
theorem Dg {P:Program}{w:World}{K:PySem.W.Frag}{tg:Expr}(a it:Addr):Turn P w K tg (Itl K a) [it] it (λi h=>h.IsListIter it a i) where
 mem:=by simp
 obj:=λi h st b hb=>by
  have e:b=it:=by simpa using hb
  subst e
  obtain⟨o,e,c,d⟩:=st
  exact⟨o,e,λv z=>by rw[d] at z;cases z⟩
 keep:=λi h h' st k=>st.at λo e=>k it (by simp) o e
 item:=by
  intro X hP hw hK hc i pins s σ H E I hf st hg
  subst hP hw hK
  obtain⟨xs,x,hq,hx⟩:=hg
  obtain⟨its,rv,p,hz⟩:=I.list hq
  obtain⟨u,hu,ru⟩:=rv.get hx
  obtain⟨f0,f1,f2,f3,f4,f5⟩:=hf it (by simp)
  refine wpAny_pyNext_list_item st p.isList (x:=u) (by simpa using hu) λh' st' sb=>?_
  have I1:Inv X pins σ H {s with heap:=h'}:=I.turned (t':=s.toks) (λb o hb e=>(sb.2 b hb).trans e) f0 f1 f3 f4 f5
  obtain⟨o,e,c,d⟩:=id st'
  exact⟨u,rfl,HZ (s:={s with heap:=h'}) e c d (by decide) ⟨x,H,I1,ru,⟨rfl,λys hy=>by rw[I.list_inj hy hq];exact hx⟩,st',λb hb=>(hf b hb).1⟩⟩
 done:=by
  intro X hP hw hK hc i pins s σ H E I hf st hg
  subst hP hw hK
  obtain⟨xs,hq,hx⟩:=hg
  obtain⟨its,rv,p,hz⟩:=I.list hq
  obtain⟨f0,f1,f2,f3,f4,f5⟩:=hf it (by simp)
  have hl:=rv.length
  exact wpAny_pyNext_list_end (I.ok.hd hc) st p.isList (by simp;omega) λh' eb=>⟨rfl,I.turned (t':=s.toks) (λb o hb e=>eb b o hb e) f0 f1 f3 f4 f5⟩
 self:=λ_ _ _ _ _ st h=>wpAny_pyIter_listiter st h
theorem Fc {P:Program}{w:World}{K:PySem.W.Frag}{tg:Expr}(it:Addr)(lo:Int)(n:Nat):Turn P w K tg (Itr lo n) [it] it (λi h=>IsRangeIter h it (lo+(i:Nat)*1) ((n:Int)-(i:Nat)) 1) where
 mem:=by simp
 obj:=λi h st b hb=>by
  have e:b=it:=by simpa using hb
  subst e
  exact⟨_,st,λv z=>by
   have z':Data.fields _=Data.cell v:=z
   cases z'⟩
 keep:=λi h h' st k=>k it (by simp) _ st
 item:=by
  intro X hP hw hK hc i pins s σ H E I hf st hg
  subst hP hw hK
  obtain⟨f0,f1,f2,f3,f4,f5⟩:=hf it (by simp)
  have W:=Walks.range (prog:=X.prog) (w:=X.w) (I.ok.hd hc) it lo 1 n
  refine W.item i s _ _ hg st λv h' tk hv st' kk=>?_
  obtain⟨t,rfl⟩:=hv
  have I1:Inv X pins σ H {s with heap:=h',toks:=tk}:=I.turned (λb o hb e=>kk b o (by simpa using hb) e) f0 f1 f3 f4 f5
  refine⟨_,rfl,HZ (s:={s with heap:=h',toks:=tk}) (n:="range_iterator") st' rfl rfl (by decide) ⟨.int (lo+i),H,I1,⟨t,?_⟩,⟨rfl,rfl⟩,st',λb hb=>(hf b hb).1⟩⟩
  rw[Int.mul_one]
 done:=by
  intro X hP hw hK hc i pins s σ H E I hf st hg
  subst hP hw hK
  obtain⟨f0,f1,f2,f3,f4,f5⟩:=hf it (by simp)
  exact wpAny_pyNext_range_end (I.ok.hd hc) st (by have:n<=i:=hg;omega) λh' eb=>⟨rfl,I.turned (t':=s.toks) (λb o hb e=>eb b o hb e) f0 f1 f3 f4 f5⟩
 self:=λ_ _ _ _ _ st h=>wpAny_pyIter_rangeiter st h
section
variable {X:Cx}{tg:Expr}
noncomputable def ER (K:PySem.W.Frag)(tl:TE):TI:=λσ H R=>tl σ H λx H1=>∃ a,x= .ref a/\(∃xs,SqL K H1 a xs)/\R (Itl K a) H1
theorem HB {l:Expr}{tl:TE}(hl:PE X l tl):PI X tg l (ER X.K tl):=by
 intro pins s σ H R I h
 refine thn (hl pins s σ H _ I h) λv s1 r9=>?_
 obtain⟨x,H1,I1,r1,q1⟩:=r9
 obtain⟨a,e,⟨xs,hq⟩,q⟩:=q1
 subst e
 cases r1
 obtain⟨its,rv,p,hz⟩:=I1.list hq
 refine wpAny_pyIter_list p.isList ?_
 refine⟨s1.heap.objs.size,[s1.heap.objs.size],_,_,H1,rfl,I1.kept (t':=s1.toks) λb o e=>Heap.get?_push_of_some _ e,Dg a _,⟨_,Heap.get?_push_size _ rfl,rfl,rfl⟩,λb hb=>?_,q⟩
 have e:b=s1.heap.objs.size:=by simpa using hb
 subst e
 exact I1.fpOk (Nat.le_refl _) (I1.hok.fresh (Nat.le_refl _))
theorem BN {pins:List (Addr×Obj)}{σ:St}{H:Hp}{s:Shared}{R:It->Hp->Prop}{E:Value->Shared->Prop}{lo hi:Int}{t u v:Tok}{tk:Nat}(I:Inv X pins σ H s)(h1: -(2^62)<=lo)(h2:lo<2^62)(h3: -(2^62)<=hi)(h4:hi<2^62)
  (q:R (Itr lo (hi-lo).toNat) H):wpAny (model X.prog X.w) X.A (pyIter (.ref s.heap.objs.size)) (PIE X pins σ tg R) E {s with heap:=s.heap.push {cls:=.type "range",data:=.fields #[.int lo t, .int hi u, .int 1 v]},toks:=tk}:=by
 refine wpAny_pyIter_range (IsRange.new ..) (small_one h1 h2 h3 h4) ?_
 have I1:Inv X pins σ H {s with heap:=s.heap.push {cls:=.type "range",data:=.fields #[.int lo t, .int hi u, .int 1 v]},toks:=tk}:=I.kept λb o e=>Heap.get?_push_of_some _ e
 refine⟨(s.heap.push {cls:=.type "range",data:=.fields #[.int lo t, .int hi u, .int 1 v]}).objs.size,[(s.heap.push {cls:=.type "range",data:=.fields #[.int lo t, .int hi u, .int 1 v]}).objs.size],_,_,H,rfl,
  I1.kept (t':=tk) λb o e=>Heap.get?_push_of_some _ e,Fc _ lo (hi-lo).toNat,?_,λb hb=>?_,q⟩
 ·have e1:lo+((0:Nat):Int)*1=lo:=by simp
  have e2:(((hi-lo).toNat:Nat):Int)-((0:Nat):Int)=Builtin.Range.rangeSize lo hi 1:=by rw[rangeSize_one];split<;> omega
  show IsRangeIter _ _ (lo+((0:Nat):Int)*1) ((((hi-lo).toNat:Nat):Int)-((0:Nat):Int)) 1
  rw[e1,e2]
  exact Heap.get?_push_size _ rfl
 ·have e:b=(s.heap.push {cls:= .type "range",data:= .fields #[.int lo t, .int hi u, .int 1 v]}).objs.size:=by simpa using hb
  subst e
  exact I1.fpOk (Nat.le_refl _) (I1.hok.fresh (Nat.le_refl _))
noncomputable def Lr (ta:TA):TI:=λσ H R=>ta σ H λvs H1=>∃ j:Int,vs=[.int j]/\ -(2^62)<=j/\j<2^62/\R (Itr 0 j.toNat) H1
theorem Zj {a:Expr}{ta:TA}{p pos:Pos}(hg:Gl X "range")(hm:X.mg "range" =none)(ha:PA X [a] ta)(hs:starEach [a] X.env=[(false,eval a X.env)]:=by rfl):PI X tg (.Call (.Name "range" p) [a] [] pos) (Lr ta):=by
 intro pins s σ H R I h
 refine Call_ (VU I hg hm boot_range (PyProof.Rows.callWith_type1 (thn (ha pos pins s σ H _ I h) λus s1 r9=>?_) hs rfl))
 obtain⟨vs,H1,I1,r1,q1⟩:=r9
 obtain⟨j,e,q1,q2,q⟩:=q1
 subst e
 cases r1 with
 |cons r rr=>
  cases rr
  obtain⟨t,rfl⟩:=r
  exact call_range_1 (BN I1 (by omega) (by omega) q1 q2 (by simpa using q))
noncomputable def L8 (wi:TI)(g:TG)(tb:TS):TS:=λD σ H=>wi σ H λJ H1=>∃ W:Nat->Nat->St->Hp->Prop,(∃m,W 0 m σ H1)/\∀i m σ H,W i m σ H->
 (J.stop i H/\D.nx σ H)∨(J.go i H/\∃N:St->Hp->Prop,(∀σ' H',N σ' H'->∃m',m'<m/\W (i+1) m' σ' H')/\∀x H',J.yld i H x H'->g x σ H' λσ2 H2=>tb {D with nx:=N,ct:=N,bk:=D.nx} σ2 H2)
noncomputable def UN (fp:List Addr)(h:Heap):List (Addr×Obj):=fp.filterMap λb=>(h.get? b).map λo=>(b,o)
theorem Ja {fp:List Addr}{h:Heap}{b:Addr}{o:Obj}(hb:b∈fp)(e:h.get? b=some o):(b,o)∈UN fp h:=List.mem_filterMap.mpr ⟨b,hb,by rw[e];rfl⟩
theorem Dz {fp:List Addr}{h:Heap}{p:Addr×Obj}(hp:p∈UN fp h):p.1∈fp/\h.get? p.1=some p.2:=by
 obtain⟨b,hb,e⟩:=List.mem_filterMap.mp hp
 cases q:h.get? b with
 |none=>rw[q] at e;cases e
 |some o=>
  rw[q] at e
  have e':(b,o)=p:=Option.some.inj e
  subst e'
  exact⟨hb,q⟩
theorem Inv.pinned {pins:List (Addr×Obj)}{σ:St}{H:Hp}{s:Shared}{fp:List Addr}(I:Inv X pins σ H s)(hf:∀b∈fp,Ga X pins H b)(ho:∀b∈fp,∃o,s.heap.get? b=some o/\∀v,o.data≠ .cell v):Inv X (pins++UN fp s.heap) σ H s:=
 I.pins_of λp hp=>(List.mem_append.mp hp).elim (λz=>I.pin p (List.mem_append_right _ z)) λz=>by
  obtain⟨hb,e⟩:=Dz z
  obtain⟨f0,f1,f2,_⟩:=hf p.1 hb
  obtain⟨o,e',d⟩:=ho p.1 hb
  rw[e] at e';cases e'
  exact⟨e,f0,f1,f2,d⟩
theorem Inv.unpinned {pins pl:List (Addr×Obj)}{σ:St}{H:Hp}{s:Shared}(I:Inv X (pins++pl) σ H s):Inv X pins σ H s:=I.pins_of λp hp=>I.pin p (List.mem_append_right _ (List.mem_append_left _ hp))
theorem Zw {iter:Expr}{body:List Stmt}{wi:TI}{g:TG}{tb:TS}{pos:Pos}(hp:PassesOwn (model X.prog X.w) X.A X.env X.xe)(hc:X.calm=true)(hi:PI X tg iter wi)(hg:PG X tg g)(hb:PSs X body tb)
  (hs:∀x,foldedSetIterable iter X.env x=pure x:=by intro _;rfl):PS X (.For tg iter body [] pos) (L8 wi g tb):=by
 intro pins s σ H D I h
 refine wpAny_For (thn (hi pins s σ H _ I h) λv s1 h1=>thn h1 λitv s2 h2=>?_) hs
 obtain⟨it,fp,tn,J,H2,e,I2,T,st2,f2,W,⟨m0,w0⟩,turn⟩:=h2
 subst e
 -- what stays true of the iterator's objects through the loop
 have stat:∀{H':Hp},(∀b∈fp,H' b=none)->∀b∈fp,Ga X pins H' b:=λhn b hb=>⟨hn b hb,(f2 b hb).2⟩
 refine codeAny_forLoop_any (λn s'=>∃ i σ' H',Inv X pins σ' H' s'/\tn i s'.heap/\(∀b∈fp,H' b=none)/\W i n σ' H') ?_ m0 ⟨0,σ,H2,I2,st2,λb hb=>(f2 b hb).1,w0⟩
 rintro n s3 ⟨i,σ3,H3,I3,st3,fr3,w3⟩
 rcases turn i n σ3 H3 w3 with⟨stop,qn⟩ | ⟨go,N,hN,step⟩
 ·refine wpAny_passesOwn hp (thn (T.done X rfl rfl rfl hc i pins s3 σ3 H3 X.xe I3 (stat fr3) st3 stop) λr s4 r9=>?_)
  obtain⟨hr,I4⟩:=r9
  subst hr
  exact wpAny_execs_nil ⟨σ3,H3,I4,qn⟩
 ·refine wpAny_passesOwn hp (thn (T.item X rfl rfl rfl hc i pins s3 σ3 H3 X.xe I3 (stat fr3) st3 go) λr s4 r9=>?_)
  obtain⟨u,hr,h4⟩:=r9
  subst hr
  refine wpAny_passesOwn hp (thn h4 λ_ s5 r9=>?_)
  obtain⟨x,H5,I5,r5,y5,st5,fr5⟩:=r9
  have I5':=I5.pinned (stat fr5) (T.obj _ _ st5)
  refine wpAny_passesOwn hp (thn (hg _ s5 σ3 H5 x u _ I5' r5 (step x H5 y5)) λ_ s6 r9=>?_)
  obtain⟨σ6,H6,I6,q6⟩:=r9
  refine wpAny_passesOwn hp (thn (hb _ s6 σ6 H6 _ I6 q6) λf s7 q7=>?_)
  have again:∀{σ7:St}{H7:Hp},Inv X (pins++UN fp s5.heap) σ7 H7 s7->N σ7 H7->∃m,m<n/\∃i σ' H',Inv X pins σ' H' s7/\tn i s7.heap/\(∀b∈fp,H' b=none)/\W i m σ' H':=fun {σ7 H7} I7 n7=>by
   obtain⟨m',hm,w7⟩:=hN σ7 H7 n7
   refine⟨m',hm,i+1,σ7,H7,I7.unpinned,T.keep _ _ _ st5 λb hb o e=>(I7.pin (b,o) (List.mem_append_right _ (List.mem_append_right _ (Ja hb e)))).1,λb hb=>?_,w7⟩
   obtain⟨o,e,d⟩:=T.obj _ _ st5 b hb
   exact(I7.pin (b,o) (List.mem_append_right _ (List.mem_append_right _ (Ja hb e)))).2.1
  cases f with
  |next=>obtain⟨σ7,H7,I7,n7⟩:=q7;exact again I7 n7
  |cont=>obtain⟨σ7,H7,I7,n7⟩:=q7;exact again I7 n7
  |brk=>obtain⟨σ7,H7,I7,q7⟩:=q7;exact⟨σ7,H7,I7.unpinned,q7⟩
  |ret v=>obtain⟨x7,σ7,H7,I7,r7,q7⟩:=q7;exact⟨x7,σ7,H7,I7.unpinned,r7,q7⟩
end
noncomputable abbrev R2:=V->V->Hp->VK->Prop
noncomputable def OpR (X:Cx)(f:Value->Value->Sem Value)(r:R2):Prop:=
 ∀(pins:List (Addr×Obj)) (s:Shared) (σ:St) (H:Hp) (x y:V) (v u:Value) (Q:VK),Inv X pins σ H s->Yc x v->Yc y u->r x y H Q->
  wpAny (model X.prog X.w) X.A (f v u) (EP X pins σ Q) X.xe s
noncomputable def UnR (X:Cx)(f:Value->Sem Value)(r:V->Hp->VK->Prop):Prop:=
 ∀(pins:List (Addr×Obj)) (s:Shared) (σ:St) (H:Hp) (x:V) (v:Value) (Q:VK),Inv X pins σ H s->Yc x v->r x H Q->
  wpAny (model X.prog X.w) X.A (f v) (EP X pins σ Q) X.xe s
noncomputable def JI (X:Cx)(f:Value)(r:List V->Hp->VK->Prop):Prop:=
 ∀(pins:List (Addr×Obj)) (s:Shared) (σ:St) (H:Hp) (xs:List V) (us:List Value) (Q:VK),Inv X pins σ H s->Yl xs us->r xs H Q->
  wpAny (model X.prog X.w) X.A (call f us) (EP X pins σ Q) X.xe s
noncomputable def tOp (r:R2)(ta tb:TE):TE:=λσ H Q=>ta σ H λx H1=>tb σ H1 λy H2=>r x y H2 Q
noncomputable def tUn (r:V->Hp->VK->Prop)(ta:TE):TE:=λσ H Q=>ta σ H λx H1=>r x H1 Q
noncomputable def rI (C:Int->Int->Prop)(g:Int->Int->V):R2:=λx y H Q=>∃ i j,x= .int i/\y= .int j/\C i j/\Q (g i j) H
noncomputable def rI0 (g:Int->Int->V):R2:=λx y H Q=>∃ i j,x= .int i/\y= .int j/\Q (g i j) H
noncomputable def rU (g:Int->V):V->Hp->VK->Prop:=λx H Q=>∃ i,x= .int i/\Q (g i) H
section
variable {X:Cx}{a b c:Expr}{ta tb tc:TE}{pos:Pos}
theorem LX (ha:PE X a ta)(hb:PE X b tb){pins:List (Addr×Obj)}{s:Shared}{σ:St}{H:Hp}{R:V->V->Hp->Prop}(I:Inv X pins σ H s)
  (h:ta σ H λx H1=>tb σ H1 λy H2=>R x y H2){Q:Value->Shared->Prop}{f:Value->Value->Sem Value}
  (hf:∀v u s2 x y H2,Inv X pins σ H2 s2->Yc x v->Yc y u->R x y H2->wpAny (model X.prog X.w) X.A (f v u) Q X.xe s2):
  wpAny (model X.prog X.w) X.A (eval a X.env) (λv s₁=>wpAny (model X.prog X.w) X.A (eval b X.env) (λu s₂=>wpAny (model X.prog X.w) X.A (f v u) Q X.xe s₂) X.xe s₁) X.xe s:=by
 refine thn (ha pins s σ H _ I h) λv s1 r9=>?_
 obtain⟨x,H1,I1,r1,q1⟩:=r9
 refine thn (hb pins s1 σ H1 _ I1 q1) λu s2 r9=>?_
 obtain⟨y,H2,I2,r2,q2⟩:=r9
 exact hf v u s2 x y H2 I2 r1 r2 q2
theorem Xl {op:Operator}{r:R2}(ho:OpR X (binaryOp op) r)(ha:PE X a ta)(hb:PE X b tb):PE X (.BinOp a op b pos) (tOp r ta tb):=by
 intro pins s σ H Q I h
 exact wpAny_BinOp (LX ha hb I h λv u s2 x y H2 I2 rx ry q=>ho pins s2 σ H2 x y v u Q I2 rx ry q)
theorem K0 {op:UnaryOp}{r:V->Hp->VK->Prop}(ho:UnR X (unaryOp op) r)(ha:PE X a ta):PE X (.UnaryOp op a pos) (tUn r ta):=by
 intro pins s σ H Q I h
 exact UnaryOp_ (thn (ha pins s σ H _ I h) λv s1 r9=>by obtain⟨x,H1,I1,r1,q1⟩:=r9;exact ho pins s1 σ H1 x v Q I1 r1 q1)
theorem opI {f:Value->Value->Sem Value}{C:Int->Int->Prop}{g:Int->Int->Int}
  (rule:∀(i j:Int) (t u:Tok) (s:Shared) (Q:Value->Shared->Prop) (E:Value->Shared->Prop),C i j->Q (.int (g i j) s.toks) {s with toks:=s.toks+1}->wpAny (model X.prog X.w) X.A (f (.int i t) (.int j u)) Q E s):
  OpR X f (rI C λi j=>.int (g i j)):=by
 intro pins s σ H x y v u Q I rx ry h
 obtain⟨i,j,rfl,rfl,hc,q⟩:=h
 obtain⟨t,rfl⟩:=rx
 obtain⟨t',rfl⟩:=ry
 exact rule i j t t' s _ _ hc ⟨.int (g i j),H,I.tok _,⟨_,rfl⟩,q⟩
theorem Mi {f:Value->Value->Sem Value}{g:Int->Int->Int}
  (rule:∀(i j:Int) (t u:Tok) (s:Shared) (Q:Value->Shared->Prop) (E:Value->Shared->Prop),Q (.int (g i j) s.toks) {s with toks:=s.toks+1}->wpAny (model X.prog X.w) X.A (f (.int i t) (.int j u)) Q E s):
  OpR X f (rI0 λi j=>.int (g i j)):=by
 intro pins s σ H x y v u Q I rx ry h
 obtain⟨i,j,rfl,rfl,q⟩:=h
 obtain⟨t,rfl⟩:=rx
 obtain⟨t',rfl⟩:=ry
 exact rule i j t t' s _ _ ⟨.int (g i j),H,I.tok _,⟨_,rfl⟩,q⟩
theorem Mc {f:Value->Value->Sem Value}{g:Int->Int->Bool}
  (rule:∀(i j:Int) (t u:Tok) (s:Shared) (Q:Value->Shared->Prop) (E:Value->Shared->Prop),Q (.bool (g i j)) s->wpAny (model X.prog X.w) X.A (f (.int i t) (.int j u)) Q E s):
  OpR X f (rI0 λi j=>.bl (g i j)):=by
 intro pins s σ H x y v u Q I rx ry h
 obtain⟨i,j,rfl,rfl,q⟩:=h
 obtain⟨t,rfl⟩:=rx
 obtain⟨t',rfl⟩:=ry
 exact rule i j t t' s _ _ ⟨.bl (g i j),H,I,rfl,q⟩
noncomputable def MD (i j:Int):Prop:=0<j/\j<1073741824
noncomputable def MA (i j:Int):Prop:=0<=j/\j<=1000000/\i.natAbs<2^64
noncomputable def IX (i j:Int):Prop:=(-(2^64)<i/\i<2^64)∨(-(2^64)<j/\j<2^64)
theorem IX.ok {i j:Int}(h:IX i j):IntMulOk i j:=by
 rcases h with⟨h1,h2⟩ | ⟨h1,h2⟩
 ·exact .of_left (intBits_le_64 h1 h2)
 ·exact .of_right (intBits_le_64 h1 h2)
theorem X9:OpR X (binaryOp .Add) (rI0 λi j=>.int (i+j)):=Mi λ_ _ _ _ _ _ _ q=>add_int q
theorem Zz:OpR X (binaryOp .Sub) (rI0 λi j=>.int (i-j)):=Mi λ_ _ _ _ _ _ _ q=>sub_int q
theorem Yq:OpR X (binaryOp .Mult) (rI IX λi j=>.int (i*j)):=opI λ_ _ _ _ _ _ _ hc q=>mul_int q hc.ok
theorem XV:OpR X (binaryOp .Mod) (rI (λ_ j=>0<j) λi j=>.int (i % j)):=opI λi j _ _ _ _ _ hc q=>by
 have h1:(0:Int)<j:=hc
 exact mod_int' (by omega) (by rw[Int.fmod_eq_emod_of_nonneg i (by omega)];exact q)
theorem GD:OpR X (binaryOp .Pow) (rI MA λi j=>.int (i^j.toNat)):=opI λ_ _ _ _ _ _ _ hc q=>pow_int_small hc.1 hc.2.1 hc.2.2 q
theorem unI {f:Value->Sem Value}{g:Int->Int}
  (rule:∀(i:Int) (t:Tok) (s:Shared) (Q:Value->Shared->Prop) (E:Value->Shared->Prop),Q (.int (g i) s.toks) {s with toks:=s.toks+1}->wpAny (model X.prog X.w) X.A (f (.int i t)) Q E s):
  UnR X f (rU λi=>.int (g i)):=by
 intro pins s σ H x v Q I rx h
 obtain⟨i,rfl,q⟩:=h
 obtain⟨t,rfl⟩:=rx
 exact rule i t s _ _ ⟨.int (g i),H,I.tok _,⟨_,rfl⟩,q⟩
theorem J0:UnR X (unaryOp .USub) (rU λi=>.int (-i)):=unI λ_ _ _ _ _ q=>neg_int q
end
noncomputable def Mb:V->V->Bool
 | .non, .non=>true | .non, .int _=>true | .int _, .non=>true | .non, .bl _=>true | .bl _, .non=>true | .non, .str _=>true | .str _, .non=>true
 | .int _, .int _=>true | .bl _, .bl _=>true | .str _, .str _=>true | .byt _, .byt _=>true
 | .int _, .str _=>true | .str _, .int _=>true | .bl _, .str _=>true | .str _, .bl _=>true
 |_,_=>false
noncomputable def rEq:R2:=λx y H Q=>Mb x y=true/\Q (.bl (decide (x=y))) H
noncomputable def rNe:R2:=λx y H Q=>Mb x y=true/\Q (.bl (!decide (x=y))) H
theorem D0 {i j:Int}:decide (V.int i=V.int j)=(i==j):=by
 rw[Bool.eq_iff_iff]
 simp
theorem B8 {i j:Bool}:decide (V.bl i=V.bl j)=(i==j):=by
 rw[Bool.eq_iff_iff]
 simp
theorem Dk {i j:Str}:decide (V.str i=V.str j)=(i==j):=by
 rw[Bool.eq_iff_iff]
 simp
theorem CO {i j:Array UInt8}:decide (V.byt i=V.byt j)=(i.toList==j.toList):=by
 rw[Bool.eq_iff_iff]
 cases i
 cases j
 simp
section
variable {X:Cx}{a b c:Expr}{ta tb tc:TE}{pos:Pos}
theorem X0 {pins:List (Addr×Obj)}{σ:St}{H:Hp}{s:Shared}{Q:VK}{k k':Bool}(I:Inv X pins σ H s)(q:Q (.bl k) H)(e:k=k'):EP X pins σ Q (.bool k') s:=by
 subst e
 exact⟨.bl k,H,I,rfl,q⟩
theorem Jo:OpR X (compareOp .Eq) rEq:=by
 intro pins s σ H x y v u Q I rx ry h
 obtain⟨hs,q⟩:=h
 cases x with
 |non=>
  cases rx
  cases y with
  |non=>cases ry;exact PySem.EqNone.eq_none_none (X0 I q (by simp))
  |bl j=>cases ry;exact PySem.EqNone.eq_none_bool (X0 I q (by simp))
  |int j=>obtain⟨t',rfl⟩:=ry;exact PySem.EqNone.eq_none_int (X0 I q (by simp))
  |str j=>obtain⟨t',rfl⟩:=ry;exact PySem.EqNone.eq_none_str (X0 I q (by simp))
  |_=>exact absurd (show false=true from hs) Bool.false_ne_true
 |bl i=>
  cases rx
  cases y with
  |non=>cases ry;exact PySem.EqNone.eq_bool_none (X0 I q (by simp))
  |bl j=>cases ry;exact eq_bool (X0 I q B8)
  |str j=>obtain⟨t',rfl⟩:=ry;exact PySem.EqMixed.eq_bool_str (X0 I q (by simp))
  |_=>exact absurd (show false=true from hs) Bool.false_ne_true
 |int i=>
  obtain⟨t,rfl⟩:=rx
  cases y with
  |non=>cases ry;exact PySem.EqNone.eq_int_none (X0 I q (by simp))
  |int j=>obtain⟨t',rfl⟩:=ry;exact eq_int (X0 I q D0)
  |str j=>obtain⟨t',rfl⟩:=ry;exact PySem.EqMixed.eq_int_str (X0 I q (by simp))
  |_=>exact absurd (show false=true from hs) Bool.false_ne_true
 |str i=>
  obtain⟨t,rfl⟩:=rx
  cases y with
  |non=>cases ry;exact PySem.EqNone.eq_str_none (X0 I q (by simp))
  |bl j=>cases ry;exact PySem.EqMixed.eq_str_bool (X0 I q (by simp))
  |int j=>obtain⟨t',rfl⟩:=ry;exact PySem.EqMixed.eq_str_int (X0 I q (by simp))
  |str j=>obtain⟨t',rfl⟩:=ry;exact eq_str (X0 I q Dk)
  |_=>exact absurd (show false=true from hs) Bool.false_ne_true
 |byt i=>
  obtain⟨t,rfl⟩:=rx
  cases y with
  |byt j=>obtain⟨t',rfl⟩:=ry;exact PySem.W.eq_bytes (X0 I q CO)
  |_=>exact absurd (show false=true from hs) Bool.false_ne_true
 |_=>cases y<;> exact absurd (show false=true from hs) Bool.false_ne_true
theorem Iu:OpR X (compareOp .NotEq) rNe:=by
 intro pins s σ H x y v u Q I rx ry h
 obtain⟨hs,q⟩:=h
 cases x with
 |non=>
  cases rx
  cases y with
  |non=>cases ry;exact PySem.EqNone.ne_none_none (X0 I q (by simp))
  |bl j=>cases ry;exact PySem.EqNone.ne_none_bool (X0 I q (by simp))
  |int j=>obtain⟨t',rfl⟩:=ry;exact PySem.EqNone.ne_none_int (X0 I q (by simp))
  |str j=>obtain⟨t',rfl⟩:=ry;exact PySem.EqNone.ne_none_str (X0 I q (by simp))
  |_=>exact absurd (show false=true from hs) Bool.false_ne_true
 |bl i=>
  cases rx
  cases y with
  |non=>cases ry;exact PySem.EqNone.ne_bool_none (X0 I q (by simp))
  |bl j=>cases ry;exact ne_bool (X0 I q (congrArg not B8))
  |str j=>obtain⟨t',rfl⟩:=ry;exact PySem.EqMixed.ne_bool_str (X0 I q (by simp))
  |_=>exact absurd (show false=true from hs) Bool.false_ne_true
 |int i=>
  obtain⟨t,rfl⟩:=rx
  cases y with
  |non=>cases ry;exact PySem.EqNone.ne_int_none (X0 I q (by simp))
  |int j=>obtain⟨t',rfl⟩:=ry;exact ne_int (X0 I q (congrArg not D0))
  |str j=>obtain⟨t',rfl⟩:=ry;exact PySem.EqMixed.ne_int_str (X0 I q (by simp))
  |_=>exact absurd (show false=true from hs) Bool.false_ne_true
 |str i=>
  obtain⟨t,rfl⟩:=rx
  cases y with
  |non=>cases ry;exact PySem.EqNone.ne_str_none (X0 I q (by simp))
  |bl j=>cases ry;exact PySem.EqMixed.ne_str_bool (X0 I q (by simp))
  |int j=>obtain⟨t',rfl⟩:=ry;exact PySem.EqMixed.ne_str_int (X0 I q (by simp))
  |str j=>obtain⟨t',rfl⟩:=ry;exact ne_str (X0 I q (congrArg not Dk))
  |_=>exact absurd (show false=true from hs) Bool.false_ne_true
 |byt i=>
  obtain⟨t,rfl⟩:=rx
  cases y with
  |byt j=>obtain⟨t',rfl⟩:=ry;exact PySem.W.ne_bytes (X0 I q (congrArg not CO))
  |_=>exact absurd (show false=true from hs) Bool.false_ne_true
 |_=>cases y<;> exact absurd (show false=true from hs) Bool.false_ne_true
theorem Fe:OpR X (compareOp .Lt) (rI0 λi j=>.bl (decide (i<j))):=Mc λ_ _ _ _ _ _ _ q=>lt_int q
theorem Mf:OpR X (compareOp .LtE) (rI0 λi j=>.bl (decide (i<=j))):=Mc λ_ _ _ _ _ _ _ q=>le_int q
theorem G2:OpR X (compareOp .Gt) (rI0 λi j=>.bl (decide (j<i))):=Mc λ_ _ _ _ _ _ _ q=>gt_int q
theorem OpR.or {f:Value->Value->Sem Value}{r r':R2}(h:OpR X f r)(h':OpR X f r'):OpR X f (λx y H Q=>r x y H Q∨r' x y H Q):=by
 intro pins s σ H x y v u Q I rx ry q
 rcases q with q |q
 ·exact h pins s σ H x y v u Q I rx ry q
 ·exact h' pins s σ H x y v u Q I rx ry q
theorem X2 (b:Expr){op:CmpOp}(h:op≠ .In:=by decide)(h2:op≠ .NotIn:=by decide):behindInMarks op b=false:=by
 have e1:(op==CmpOp.In)=false:=by cases op<;> first |rfl |exact absurd rfl h
 have e2:(op==CmpOp.NotIn)=false:=by cases op<;> first |rfl |exact absurd rfl h2
 cases b<;> simp[behindInMarks,e1,e2]
theorem Hr {op:CmpOp}{r:R2}(ho:OpR X (compareOp op) r)(ha:PE X a ta)(hb:PE X b tb)(hm:behindInMarks op b=false):PE X (.Compare a [op] [b] pos) (tOp r ta tb):=by
 intro pins s σ H Q I h
 exact wpAny_Compare1 (LX ha hb I h λv u s2 x y H2 I2 rx ry q=>ho pins s2 σ H2 x y v u Q I2 rx ry q) hm
noncomputable def Il (t:TE):TT:=λσ H Q=>t σ H λx H'=>∃ k,x= .bl k/\Q k H'
theorem XH {op:CmpOp}{r:R2}(ho:OpR X (compareOp op) r)(ha:PE X a ta)(hb:PE X b tb)(hm:behindInMarks op b=false):PT X (.Compare a [op] [b] pos) (Il (tOp r ta tb)):=by
 intro pins s σ H Q I h
 refine wpAny_isTrue_Compare1 (thn (ha pins s σ H _ I h) λv s1 ⟨x,H1,I1,r1,q1⟩=>thn (hb pins s1 σ H1 _ I1 q1) λu s2 ⟨y,H2,I2,r2,q2⟩=>
  thn (ho pins s2 σ H2 x y v u _ I2 r1 r2 q2) λc s3 ⟨z,H3,I3,r3,k,e,q3⟩=>?_) hm
 subst e
 cases r3
 exact wpAny_truthy_bool ⟨H3,I3,q3⟩
theorem U5:(sizeLine:Nat)<2^63:=by rw[sizeLine_eq];decide
theorem HD {x:V}{us:List Value}(r:Yl [x] us):∃u,us=[u]/\Yc x u:=by
 cases r with
 |cons r1 r2=>cases r2;exact⟨_,rfl,r1⟩
theorem L5 {x y:V}{us:List Value}(r:Yl [x,y] us):∃u w',us=[u,w']/\Yc x u/\Yc y w':=by
 cases r with
 |cons r1 r2=>
  cases r2 with
  |cons r3 r4=>cases r4;exact⟨_,_,rfl,r1,r3⟩
theorem Kt (hc:X.calm=true):JI X (.builtin "max") (λxs H Q=>∃ i j,xs=[.int i, .int j]/\Q (.int (if j > i then j else i)) H):=by
 intro pins s σ H xs us Q I r h
 obtain⟨i,j,rfl,q⟩:=h
 obtain⟨u,w',rfl,⟨t,rfl⟩,⟨t',rfl⟩⟩:=L5 r
 refine max_two_ints (I.ok.hd hc) λh' tk k=>⟨_,H,I.kept k,?_,q⟩
 by_cases hj:j > i
 ·rw[if_pos hj,if_pos hj];exact⟨_,rfl⟩
 ·rw[if_neg hj,if_neg hj];exact⟨_,rfl⟩
end
structure ObjM (h:Heap)(x dx C:Addr)(mA:Str->Option Value):Prop where
 obj:h.get? x=some (PySem.W.instObj C dx)
 ns:h.Ns1 dx mA
 ne:dx≠x
theorem CL {h:Heap}{dx:Addr}{mA:Str->Option Value}(n:h.Ns1 dx mA):∃od,h.get? dx=some od/\∀name,PySem.W.lookIn name od=some (mA name):=by
 obtain⟨o,es,ep,ho,hd,hk,_,hm⟩:=n
 refine⟨o,ho,λname=>?_⟩
 have e:=hm name
 unfold nsFind findBy at e
 rw[←Array.find?_toList] at e
 unfold PySem.W.lookIn
 rw[hd]
 dsimp only
 split
 ·rename_i y q
  rw[q] at e
  exact congrArg some e
 ·rename_i q
  rw[q] at e
  have a:es.toList.any (·.refKey)=false:=by
   rw[List.any_eq_false]
   intro y hy
   obtain⟨z,t,hkey⟩:=hk y (Array.mem_toList_iff.mp hy)
   simp[DictEntry.refKey,hkey]
  have a':¬es.toList.any (·.refKey)=true:=by rw[a];exact Bool.false_ne_true
  rw[if_neg a']
  exact congrArg some e
theorem ObjM.look {h:Heap}{x dx C:Addr}{mA:Str->Option Value}(I:ObjM h x dx C mA):∃od,PySem.W.InstAt h x (PySem.W.instObj C dx) C (some od)/\∀name,PySem.W.lookIn name od=some (mA name):=
 let ⟨od,ho,hl⟩:=CL I.ns
 ⟨od,⟨I.obj,rfl,rfl,ho⟩,hl⟩
section
variable {prog:Program}{w:World}{A:Around}{E:Value->Shared->Prop}{s:Shared}{K:PySem.W.Frag}{x dx C f:Addr}{mA:Str->Option Value}{name:Str}{v:Value}
end
section
variable {P:Program}{w:World}{H H':Hp}{h h':Heap}{a C dx:Addr}{fs fs':List (Str×V)}
theorem Hy (hok:HOk P w H h)(e:H a=some (.ins C dx fs)):∃mA,ObjM h a dx C mA/\(∀f,BQ (fs.lookup f) (mA f))/\PySem.Within mA (fs.map (·.1))/\fs.length<=1000/\H dx=some (.own a):=by
 obtain⟨d,z,ne,ob,mA,n,r,q⟩:=(show YH P w H h a (.ins C dx fs) from hok a _ e)
 exact⟨mA,⟨ob,n,ne⟩,r,q,z,d⟩
end
structure Cls (K:PySem.W.Frag)(C:Addr):Prop where
 pg:PySem.W.plainGet K C Str.empty=true
 hd:PySem.W.hasDictIn K C=true
 po:PySem.W.plainOver K C=true
 sa:PySem.W.findIn K (.ref C) "__setattr__" =some (some (.builtin "object.__setattr__"))
theorem Cls.get {K:PySem.W.Frag}{C:Addr}(c:Cls K C)(f:Str):PySem.W.plainGet K C f=true:=c.pg
section
variable {X:Cx}{pins:List (Addr×Obj)}{σ:St}{H:Hp}{s:Shared}{a C dx:Addr}{fs:List (Str×V)}{f:Str}{v:V}{A:Around}{E:Value->Shared->Prop}
theorem Inv.made (I:Inv X pins σ H s):Inv X pins σ (upd (upd H s.heap.objs.size (.own (s.heap.objs.size+1))) (s.heap.objs.size+1) (.ins C s.heap.objs.size []))
  {s with heap:=(s.heap.push PySem.W.emptyDict).push (PySem.W.instObj C s.heap.objs.size)}:=by
 have e1:(s.heap.push PySem.W.emptyDict).get? s.heap.objs.size=some PySem.W.emptyDict:=Heap.get?_push_size s.heap rfl
 have e2:((s.heap.push PySem.W.emptyDict).push (PySem.W.instObj C s.heap.objs.size)).get? (s.heap.objs.size+1)=some (PySem.W.instObj C s.heap.objs.size):=by
  have:=Heap.get?_push_size (s.heap.push PySem.W.emptyDict) (o:=PySem.W.instObj C s.heap.objs.size) rfl
  rwa [Heap.size_push] at this
 have e3:(s.heap.push PySem.W.emptyDict).Ns s.heap.objs.size (λ_=>none):=⟨PySem.W.emptyDict, #[],_,e1,rfl,(λe he=>absurd he (by simp)),λ_=>rfl⟩
 have I1:=I.laid (a:=s.heap.objs.size) (o:=.own (s.heap.objs.size+1)) (h':=s.heap.push PySem.W.emptyDict) (t':=s.toks) (λb u q=>Heap.get?_push_of_some _ q) (Nat.le_refl _) ⟨_,e1⟩
 refine I1.laid (a:=s.heap.objs.size+1) (o:=.ins C s.heap.objs.size []) (t':=s.toks) (λb u q=>Heap.get?_push_of_some _ q) (Nat.le_of_eq (Heap.size_push _ _)) ?_
 have ne:s.heap.objs.size≠s.heap.objs.size+1:=Nat.ne_of_lt (Nat.lt_succ_self _)
 refine⟨by rw[Xs ne,Yr],Nat.zero_le _,ne,e2,λ_=>none,(Heap.Ns1.of_empty e3).at λo q=>Heap.get?_push_of_some _ q,λ_=>True.intro,λy hy=>absurd rfl hy⟩
end
section
variable {X:Cx}{o e value:Expr}{f:Str}{pos pos' tpos:Pos}{ta tv:TE}
end
section
variable {X:Cx}{pins:List (Addr×Obj)}{σ:St}{H:Hp}{s:Shared}{A:Around}{E:Value->Shared->Prop}{Q:Value->Shared->Prop}{c:Value}{b:Bool}
inductive TyOf (K:PySem.W.Frag)(H:Hp):V->Value->Prop where
 |non:TyOf K H .non (.type "NoneType")
 |bl (x:Bool):TyOf K H (.bl x) (.type "bool")
 |int (i:Int):TyOf K H (.int i) (.type "int")
 |str (x:Str):TyOf K H (.str x) (.type "str")
 |flt (x:UInt64):TyOf K H (.flt x) (.type "float")
 |lst {a:Addr}{xs:List V} (e:H a=some (.lst xs)):TyOf K H (.ref a) (.type "list")
 |frz {a:Addr}{o:Obj}{xs:List V} (e:H a=some (.frz o (.lst xs))):TyOf K H (.ref a) (.type "list")
 |tup {a:Addr}{xs:List V} (e:H a=some (.tup xs)):TyOf K H (.ref a) (.type "tuple")
 |dK {a:Addr}{kvs:List (Key×V)} (e:H a=some (.dK kvs)):TyOf K H (.ref a) (.type "dict")
 |dT {a:Addr}{kvs:List (List Key×V)} (e:H a=some (.dT kvs)):TyOf K H (.ref a) (.type "dict")
 |ins {a C dx:Addr}{fs:List (Str×V)} (e:H a=some (.ins C dx fs)) (cl:Cls K C) (ha:PySem.W.findIn K (.ref C) "__class__" =some (some (.builtin "object.__class__")))
   (hn:PySem.W.specialIn K (.builtin "object.__class__") "__get__" =some (some (.builtin "getset_descriptor.__get__"))) (htk:PySem.W.takesIn K (.builtin "object.__class__")=some true)
   (hm:PySem.W.mroIn K C (.type "object")=some true):TyOf K H (.ref a) (.ref C)
theorem DB {x:V}{u t:Value}(I:Inv X pins σ H s)(rx:Yc x u)(ty:TyOf X.K H x t)(e:PySem.W.kitOne X.K t c=some b)(h:∀tk,Q (.bool b) {s with toks:=tk}):
  wpAny (model X.prog X.w) A (call (.builtin "isinstance") [u,c]) Q E s:=by
 cases ty with
 |non=>cases(show u=Value.none from rx);exact PySem.W.kia_one PySem.W.kitx_none I.kIn True.intro e (λz=>nomatch z) h
 |bl y=>cases(show u=Value.bool y from rx);exact PySem.W.kia_one PySem.W.kitx_bool I.kIn True.intro e (λz=>nomatch z) h
 |int i=>obtain⟨t,q⟩:=(show ∃t,u=Value.int i t from rx);cases q;exact PySem.W.kia_one PySem.W.kitx_int I.kIn True.intro e (λz=>nomatch z) h
 |str y=>obtain⟨t,q⟩:=(show ∃t,u=Value.str y t from rx);cases q;exact PySem.W.kia_one PySem.W.kitx_str I.kIn True.intro e (λz=>nomatch z) h
 |flt y=>obtain⟨t,q⟩:=(show ∃t,u=Value.float y t from rx);cases q;exact PySem.W.kia_one PySem.W.kitx_float I.kIn True.intro e (λz=>nomatch z) h
 | @lst a xs ea=>
  cases(show u=Value.ref a from rx)
  obtain⟨_,_,n,_,h1⟩:=(show YH X.prog X.w H s.heap a (.lst xs) from I.hok a _ ea)
  exact PySem.W.kia_one PySem.W.kitx_list I.kIn ⟨_,h1,rfl⟩ e (λz=>nomatch z) h
 | @frz a ob xs ea=>
  cases(show u=Value.ref a from rx)
  obtain⟨_,_,_,n,_,h1⟩:=(show YH X.prog X.w H s.heap a (.frz ob (.lst xs)) from I.hok a _ ea)
  exact PySem.W.kia_one PySem.W.kitx_list I.kIn ⟨_,h1,rfl⟩ e (λz=>nomatch z) h
 | @tup a xs ea=>
  cases(show u=Value.ref a from rx)
  obtain⟨_,_,_,p⟩:=(show YH X.prog X.w H s.heap a (.tup xs) from I.hok a _ ea)
  obtain⟨o,h1,h2,_⟩:=p
  exact PySem.W.kia_one PySem.W.kitx_tuple I.kIn ⟨o,h1,h2.1⟩ e (λz=>nomatch z) h
 | @dK a kvs ea=>
  cases(show u=Value.ref a from rx)
  obtain⟨_,_,vs,_,p⟩:=(show YH X.prog X.w H s.heap a (.dK kvs) from I.hok a _ ea)
  obtain⟨o,es,ep,h1,h2,_⟩:=p
  exact PySem.W.kia_one PySem.W.kitx_dict I.kIn ⟨o,h1,h2.1⟩ e (λz=>nomatch z) h
 | @dT a kvs ea=>
  cases(show u=Value.ref a from rx)
  obtain⟨_,_,xs,_,o,es,ep,h1,h2,_⟩:=(show YH X.prog X.w H s.heap a (.dT kvs) from I.hok a _ ea)
  exact PySem.W.kia_one PySem.W.kitx_dict I.kIn ⟨o,h1,h2.1⟩ e (λz=>nomatch z) h
 | @ins a C dx fs ea cl ha hn htk hm=>
  cases(show u=Value.ref a from rx)
  obtain⟨mA,O,_⟩:=Hy I.hok ea
  obtain⟨od,J,_⟩:=O.look
  exact PySem.W.kia_one (PySem.W.kitx_own (cl.get _) cl.hd ha hn htk hm) I.kIn J e (λz=>nomatch z) h
end
structure Room (k:Nat)(A:Around):Prop where
 hd:A.handled=none
 dp:A.depth+3*k+5<recursionLimit
 un:A.units+16*k+200<cLine
theorem Room.mono {j k:Nat}{A:Around}(r:Room k A)(h:j<=k):Room j A:=⟨r.hd,by have:=r.dp;omega,by have:=r.un;omega⟩
theorem Room.deeper {k:Nat}{A:Around}(r:Room (k+1) A)(env:Env):Room k (A.deeper env):=
 ⟨r.hd,by have:=r.dp;show A.depth+1+3*k+5<_;omega,by have:=r.un;show A.units+3+16*k+200<_;omega⟩
theorem Room.in1 {k:Nat}{A:Around}(r:Room (k+1) A):Room k A.in1:=
 ⟨r.hd,by have:=r.dp;show A.depth+3*k+5<_;omega,by have:=r.un;show A.units+1+16*k+200<_;omega⟩
theorem G9 {A:Around}{C:Addr}{us:List Value}{kw:List (Str×Value)}:(A.under (.builtin "type.__call__" ⟨.ref C::us,kw⟩)).depth=A.depth+1:=by
 first |rfl |simp[Around.under,Code.weight,Code.isCreation,Code.isGuard,Code.isCaller,Code.frames,Code.isFrame,guardIds]
theorem G3 {A:Around}{C:Addr}{us:List Value}{kw:List (Str×Value)}:(A.under (.builtin "type.__call__" ⟨.ref C::us,kw⟩)).units=A.units+1:=by
 first |rfl |simp[Around.under,Code.cUnits,Code.frames,Code.isFrame]
theorem Room.make {k:Nat}{A:Around}(r:Room (k+1) A)(C:Addr)(us:List Value)(kw:List (Str×Value)):Room k (A.under (.builtin "type.__call__" ⟨.ref C::us,kw⟩)):=
 ⟨r.hd,by have:=r.dp;rw[G9];omega,by have:=r.un;rw[G3];omega⟩
theorem Room.depth {k:Nat}{A:Around}(r:Room k A):A.depth<recursionLimit:=by have:=r.dp;omega
theorem Room.units {k:Nat}{A:Around}(r:Room k A):A.units+64<cLine:=by have:=r.un;omega
noncomputable def Jf:TA:=λ_ H Q=>Q [] H
noncomputable def XO (ta:TE)(tr:TA):TA:=λσ H Q=>ta σ H λx H1=>tr σ H1 λxs H2=>Q (x::xs) H2
section
variable {X:Cx}{e:Expr}{es:List Expr}{te:TE}{t:TA}{pos:Pos}
theorem Xg:PA X [] Jf:=λ_ _ _ _ H Q I h=>Calls.spliced_nil ⟨[],H,I, .nil,h⟩
theorem Xb (ha:PE X e te)(hr:PA X es t)(hs:starEach (e::es) X.env=(false,eval e X.env)::starEach es X.env:=by rfl):PA X (e::es) (XO te t):=by
 intro pos pins s σ H Q I h
 rw[hs]
 show wpAny _ _ (spliced ((false,eval e X.env)::backTo pos (starEach es X.env))) _ _ s
 refine Calls.spliced_cons (thn (ha pins s σ H _ I h) λu s1 r9=>?_)
 obtain⟨x,H1,I1,r1,q1⟩:=r9
 exact thn (hr pos pins s1 σ H1 _ I1 q1) λus s2 r9=>by obtain⟨xs,H2,I2,r2,q2⟩:=r9;exact⟨x::xs,H2,I2, .cons r1 r2,q2⟩
noncomputable def HM (t:TA):TE:=λσ H Q=>t σ H λxs H1=>xs.length<=sizeLine/\∀p,H1 p=none->Q (.ref p) (upd H1 p (.tup xs))
noncomputable def LD (t:TA):TE:=λσ H Q=>t σ H λxs H1=>xs.length<=sizeLine/\∀p,H1 p=none->Q (.ref p) (upd H1 p (.lst xs))
theorem X1 {x1}(h:PA X es t):PE X (.Tuple es x1 pos) (HM t):=by
 intro pins s σ H Q I hq
 refine wpAny_Tuple_spliced (thn (h pos pins s σ H _ I hq) λus s1 ⟨xs,H1,I1,r,z,q⟩=>⟨by rw[←r.length];exact z,?_⟩)
 have hf:H1 s1.heap.objs.size=none:=I1.hok.fresh (Nat.le_refl _)
 refine⟨.ref s1.heap.objs.size,upd H1 s1.heap.objs.size (.tup xs),I1.laid (t':=s1.toks) (λb u e=>Heap.get?_push_of_some _ e) (Nat.le_refl _) ?_,rfl,q _ hf⟩
 exact⟨z,us,r,⟨_,Heap.get?_push_size _ rfl,⟨rfl,rfl⟩,_,rfl⟩⟩
theorem Yg (h:PA X es t):PE X (.List es pos) (LD t):=by
 intro pins s σ H Q I hq
 refine wpAny_List_spliced (thn (h pos pins s σ H _ I hq) λus s1 ⟨xs,H1,I1,r,z,q⟩=>⟨by rw[←r.length];exact z,?_⟩)
 have hf:H1 s1.heap.objs.size=none:=I1.hok.fresh (Nat.le_refl _)
 refine⟨.ref s1.heap.objs.size,upd H1 s1.heap.objs.size (.lst xs),I1.laid (t':=s1.toks) (λb u e=>Heap.get?_push_of_some _ e) (Nat.le_refl _) ?_,rfl,q _ hf⟩
 exact⟨z,us,0,r,Heap.get?_push_size _ rfl⟩
end
noncomputable abbrev Sp:=List V->Hp->VK->XK->Prop
noncomputable abbrev CXT:=List Env->Hp->Shared->XK->Value->Shared->Prop
structure Env0 (P:Program)(w:World)(K:PySem.W.Frag)(mg:Str->Option Value)(base:Heap)(A:Around)(outer:List Env)(s:Shared)(H:Hp):Prop where
 frames:A.frames=some outer
 mod:Mod K mg base
 bs:∀b o,base.get? b=some o->s.heap.get? b=some o/\H b=none
 bsz:base.objs.size<=s.heap.objs.size
 funs:s.heap.FunFrames base outer
 frf:∀b∈frs outer,H b=none
 hok:HOk P w H s.heap
 bare:AllBare s.gens
noncomputable def CE (outer:List Env)(P:Program)(w:World)(H:Hp)(s:Shared)(Q:VK)(u:Value)(s':Shared):Prop:=
 ∃v H',s'.os=s.os/\AllBare s'.gens/\Un (frs outer) [] H H' s.heap s'.heap/\HOk P w H' s'.heap/\Yc v u/\Q v H'
noncomputable def CR (CX:CXT)(outer:List Env)(P:Program)(w:World)(H:Hp)(s:Shared)(Q:VK)(E:XK)(r:Result)(s':Shared):Prop:=
 match r with
 | .ok (.ret u)=>CE outer P w H s Q u s'
 | .ok _=>False
 | .error e=>CX outer H s E e s'
structure FnOk (P:Program)(w:World)(K:PySem.W.Frag)(mg:Str->Option Value)(base:Heap)(CX:CXT)(k:Nat)(f:Addr)(fd:FuncData)(ps:List Str)(sp:Sp):Prop where
 len:∀vs H Q E,sp vs H Q E->vs.length=ps.length
 run:∀(A:Around) (outer:List Env) (s:Shared) (H:Hp) (args:Args) (us:List Value) (vs:List V) (Q:VK) (E:XK),Room k A->Env0 P w K mg base A outer s H->BindsTo s fd args (ps.zip us)->Yl vs us->sp vs H Q E->
  codeAny (model P w) A (.call (.ref f) args) (CR CX outer P w H s Q E) s
theorem FnOk.mono {P:Program}{w:World}{K:PySem.W.Frag}{mg:Str->Option Value}{base:Heap}{CX:CXT}{j k:Nat}{f:Addr}{fd:FuncData}{ps:List Str}{sp:Sp}(F:FnOk P w K mg base CX j f fd ps sp)(h:j<=k):
  FnOk P w K mg base CX k f fd ps sp:=⟨F.len,λA outer s H args us vs Q E hr=>F.run A outer s H args us vs Q E (hr.mono h)⟩
theorem FnOk.imp {P:Program}{w:World}{K:PySem.W.Frag}{mg:Str->Option Value}{base:Heap}{CX:CXT}{k:Nat}{f:Addr}{fd:FuncData}{ps:List Str}{sp sp':Sp}(F:FnOk P w K mg base CX k f fd ps sp)
  (h:∀vs H Q E,sp' vs H Q E->sp vs H Q E):FnOk P w K mg base CX k f fd ps sp':=
 ⟨λvs H Q E q=>F.len vs H Q E (h _ _ _ _ q),λA outer s H args us vs Q E hr he hb hv hs=>F.run A outer s H args us vs Q E hr he hb hv (h _ _ _ _ hs)⟩
theorem Env0.make {P:Program}{w:World}{K:PySem.W.Frag}{mg:Str->Option Value}{base:Heap}{A:Around}{outer:List Env}{s:Shared}{H:Hp}(e:Env0 P w K mg base A outer s H)(C:Addr)(us:List Value)(kw:List (Str×Value)):
  Env0 P w K mg base (A.under (.builtin "type.__call__" ⟨.ref C::us,kw⟩)) outer s H:=⟨by first |exact e.frames | (simpa[Around.under,Code.envs,Code.isFrame,pushEnvs] using e.frames),e.mod,e.bs,e.bsz,e.funs,e.frf,e.hok,e.bare⟩
theorem Env0.in1 {P:Program}{w:World}{K:PySem.W.Frag}{mg:Str->Option Value}{base:Heap}{A:Around}{outer:List Env}{s:Shared}{H:Hp}(e:Env0 P w K mg base A outer s H):
  Env0 P w K mg base A.in1 outer s H:=⟨e.frames,e.mod,e.bs,e.bsz,e.funs,e.frf,e.hok,e.bare⟩
section
variable {X:Cx}{pins:List (Addr×Obj)}{σ:St}{H:Hp}{s s':Shared}
theorem Inv.env0 (I:Inv X pins σ H s):Env0 X.prog X.w X.K X.mg X.base X.A X.stack s H:=
 ⟨I.ok.frames,I.ok.mod,I.bs,Nat.le_trans I.ok.bsz I.sz,I.stack,I.stkFree,I.hok,I.bare⟩
theorem Inv.after {Q:VK}{u:Value}(I:Inv X pins σ H s)(h:CE X.stack X.prog X.w H s Q u s'):EP X pins σ Q u s':=by
 obtain⟨v,H',os,bare,un,hok,r,q⟩:=h
 obtain⟨hh,g,d,t,os'⟩:=s'
 obtain rfl:os'=s.os:=os
 exact⟨v,H',I.call (h':=hh) (g':=g) (d':=d) (t':=t) (ch:=[]) un hok bare (λb z=>absurd z (by simp)),r,q⟩
end
noncomputable def U4 (sp:Sp)(dvs:List V)(E:XK)(t:TA):TE:=λσ H Q=>t σ H λvs H1=>sp (vs++dvs) H1 Q E
noncomputable def KZ (K:PySem.W.Frag)(fd:FuncData)(ps:List Str)(ds:List Value):Prop:=
 ∀(s:Shared) (us:List Value),K.In s.heap->(us++ds).length=ps.length->BindsTo s fd ⟨us,[]⟩ (ps.zip (us++ds))
theorem KZ.all {K:PySem.W.Frag}{fd:FuncData}{ps:List Str}(h:∀us:List Value,us.length=ps.length->bindArgs fd ⟨us,[]⟩=pure (ps.zip us)):KZ K fd ps []:=λs us _ hl=>by
 rw[List.append_nil] at hl⊢
 exact .of_eq (h us hl)
noncomputable def CM (CX:CXT)(X:Cx)(E:XK):Prop:=∀ (pins:List (Addr×Obj)) (σ:St) (H:Hp) (s:Shared) (e:Value) (s':Shared),Inv X pins σ H s->CX X.stack H s E e s'->X.xe e s'
section
variable {X:Cx}{CX:CXT}{k:Nat}{f C:Addr}{fd:FuncData}{ps:List Str}{sp:Sp}{dvs:List V}{ds:List Value}{E:XK}{x m:Str}{p pos apos:Pos}{e o:Expr}{es:List Expr}{ta:TE}{t:TA}
theorem IK {pins:List (Addr×Obj)}{σ:St}{H:Hp}{s:Shared}{Q:VK}{us:List Value}{vs:List V}(F:FnOk X.prog X.w X.K X.mg X.base CX k f fd ps sp)(hr:Room k X.A)(hb:KZ X.K fd ps ds)(hd:Yl dvs ds)(hx:CM CX X E)
  (I:Inv X pins σ H s)(r:Yl vs us)(h:sp (vs++dvs) H Q E):wpAny (model X.prog X.w) X.A (call (.ref f) us) (EP X pins σ Q) X.xe s:=by
 have r2:Yl (vs++dvs) (us++ds):=r.append hd
 have hl:(us++ds).length=ps.length:=by rw[←r2.length];exact F.len _ _ _ _ h
 refine wpAny_call (codeAny_mono (F.run X.A X.stack s H ⟨us,[]⟩ (us++ds) (vs++dvs) Q E hr I.env0 (hb s us I.kIn hl) r2 h) λr s' hq=>?_)
 cases r with
 |error e=>exact hx pins σ H s e s' I hq
 |ok fl=>
  cases fl with
  |ret u=>exact I.after hq
  |next=>exact False.elim hq
  |brk=>exact False.elim hq
  |cont=>exact False.elim hq
theorem EX (F:FnOk X.prog X.w X.K X.mg X.base CX k f fd ps sp)(hr:Room k X.A)(hg:Gl X x)(hm:X.mg x=some (.ref f))(hk:PySem.W.keepIn X.K (.ref f)=true)(hb:KZ X.K fd ps ds)(hd:Yl dvs ds)(hx:CM CX X E)
  (ha:PA X (e::es) t)(hdb:(x==("__debug__":Str))=false:=by decide)(he:starEach (e::es) X.env=(false,eval e X.env)::starEach es X.env:=by rfl)(hpl:(backTo pos (starEach es X.env)).any (·.1)=false:=by rfl):
  PE X (.Call (.Name x p) (e::es) [] pos) (U4 sp dvs E t):=by
 intro pins s σ H Q I h
 refine wpAny_Call_Name_kw (DE I hg hm ?_ hdb)
 refine PySem.W.callWith_K (h₀:=X.base) I.ok.mod.kin hk (thn (ha pos pins s σ H _ I h) λus s1 ⟨vs,H1,I1,r,q⟩=>⟨I1.kIn,?_⟩) he hpl
 exact IK F hr hb hd hx I1 r q
end
section
variable {X:Cx}{CX:CXT}{k:Nat}{f C:Addr}{fd:FuncData}{ps ks:List Str}{sp:Sp}{E:XK}{x m:Str}{p pos apos kpos:Pos}{e o:Expr}{es:List Expr}{kws:List Keyword}{te ta:TE}{t tk:TA}{nm:Option Str}
variable {g:List Value->List Value->List Value}{gV:List V->List V->List V}
end
structure FnScope (N P:List Str)(sc:Scope):Prop where
 kind:sc.kind= .function
 co:sc.isCoroutine=false
 gen:sc.isGenerator=false
 nd:N.Nodup
 pre:N.take P.length=P
 par:∀x∈P,sc.names.lookup x=some .local∨sc.names.lookup x=some .cell
 nofree:∀y∈sc.names,y.2≠ .free
theorem U1 {kindOf:Str->Option NameKind}{x:Str}:∀{binds:List (Str×Value)}{m:Str->Option Value},(∀v,(x,v)∉binds)->bindL kindOf binds m x=m x
 | [],_,_=>rfl
 | (n,v)::r,m,h=>by
  unfold bindL
  rw[U1 λw hw=>h w (List.mem_cons_of_mem _ hw)]
  split
  ·have:x≠n:=by rintro rfl;exact h v List.mem_cons_self
   simp[this]
  ·rfl
theorem Kg {kindOf:Str->Option NameKind}{x:Str}:∀{binds:List (Str×Value)}{m:Str->Option Value},(∀v,(x,v)∉binds)->bindC kindOf binds m x=m x
 | [],_,_=>rfl
 | (n,v)::r,m,h=>by
  unfold bindC
  rw[Kg λw hw=>h w (List.mem_cons_of_mem _ hw)]
  split
  ·rfl
  ·have:x≠n:=by rintro rfl;exact h v List.mem_cons_self
   simp[this]
theorem Kv {kindOf:Str->Option NameKind}{x:Str}{v:Value}:∀{P:List Str}{vs:List Value}{i:Nat}{m:Str->Option Value},P.Nodup->P[i]?=some x->vs[i]?=some v->kindOf x=some .local->
  bindL kindOf (P.zip vs) m x=some v
 | [],_,_,_,_,h,_,_=>by simp at h
 |_::_,[],_,_,_,_,h,_=>by simp at h
 |p::P,w::vs,0,m,nd,h1,h2,hk=>by
  simp at h1 h2;subst h1;subst h2
  show bindL kindOf ((p,w)::P.zip vs) m p=_
  unfold bindL
  rw[U1 λv hv=>(List.nodup_cons.mp nd).1 (List.of_mem_zip hv).1,if_pos hk]
  simp
 |p::P,w::vs,i+1,m,nd,h1,h2,hk=>by
  show bindL kindOf ((p,w)::P.zip vs) m x=_
  unfold bindL
  exact Kv (i:=i) (List.nodup_cons.mp nd).2 (by simpa using h1) (by simpa using h2) hk
theorem Kp {kindOf:Str->Option NameKind}{x:Str}{v:Value}:∀{P:List Str}{vs:List Value}{i:Nat}{m:Str->Option Value},P.Nodup->P[i]?=some x->vs[i]?=some v->kindOf x≠some .local->
  bindC kindOf (P.zip vs) m x=some v
 | [],_,_,_,_,h,_,_=>by simp at h
 |_::_,[],_,_,_,_,h,_=>by simp at h
 |p::P,w::vs,0,m,nd,h1,h2,hk=>by
  simp at h1 h2;subst h1;subst h2
  show bindC kindOf ((p,w)::P.zip vs) m p=_
  unfold bindC
  rw[Kg λv hv=>(List.nodup_cons.mp nd).1 (List.of_mem_zip hv).1,if_neg hk]
  simp
 |p::P,w::vs,i+1,m,nd,h1,h2,hk=>by
  show bindC kindOf ((p,w)::P.zip vs) m x=_
  unfold bindC
  exact Kp (i:=i) (List.nodup_cons.mp nd).2 (by simpa using h1) (by simpa using h2) hk
noncomputable def start (N:List Str)(vs:List V):St:=vs.map some++List.replicate (N.length-vs.length) none
noncomputable def Es (CX:CXT)(P:Program)(w:World)(K:PySem.W.Frag)(mg:Str->Option Value)(base:Heap)(N:List Str)(qual:Str)(scope:Scope)(f:Addr)(cd:Value)(A:Around)(outer:List Env)(s:Shared)(H:Hp)(E:XK):Cx where
 prog:=P
 w:=w
 K:=K
 mg:=mg
 base:=base
 A:=A.deeper (envOfC qual scope s.heap.objs.size f cd)
 N:=N
 s₀:=s
 H₀:=H
 env:=envOfC qual scope s.heap.objs.size f cd
 outer:=outer
 stack:=envOfC qual scope s.heap.objs.size f cd::outer
 ex:=[]
 calm:=true
 fn:=λ_=>true
 pn:=[]
 xe:=λe s'=>wpAny (model P w) (A.deeper (envOfC qual scope s.heap.objs.size f cd)) (leaving (envOfC qual scope s.heap.objs.size f cd) e) (λ_ s''=>CX outer H s E e s'') (λe' s''=>CX outer H s E e' s'') s'
theorem GK {sc:Scope}{n:Nat}{x:Str}(h:sc.names.lookup x=some .cell):∃c,(cellsFrom n sc.names []).lookup x=some c:=by
 have q:=PySem.W.cellsFrom_some sc.names n [] (.inl h)
 exact Option.isSome_iff_exists.mp q
theorem Dc {CX:CXT}{P:Program}{w:World}{K:PySem.W.Frag}{mg:Str->Option Value}{base:Heap}{N ps:List Str}{qual:Str}{scope:Scope}{f:Addr}{cd:Value}{A:Around}{outer:List Env}{s s1:Shared}{H:Hp}{E:XK}{us:List Value}{vs:List V}
  (S:FnScope N ps scope)(hd:A.handled=none)(e0:Env0 P w K mg base A outer s H)(hl:vs.length=ps.length)(r:Yl vs us)
  (x:InCallC s s.heap.objs.size (bindL (envOfC qual scope s.heap.objs.size f cd).kindOf (ps.zip us) λ_=>none) (cellsFrom (s.heap.objs.size+1) scope.names []) (bindC (envOfC qual scope s.heap.objs.size f cd).kindOf (ps.zip us) λ_=>none) s1):
  Inv (Es CX P w K mg base N qual scope f cd A outer s H E) [] (start N vs) H s1:=by
 have hpl:ps.length<=N.length:=by have:=congrArg List.length S.pre;rw[List.length_take] at this;omega
 obtain⟨h1,tk,rfl,hk⟩:=x.done
 have noA:∀b:Addr,b∉(Es CX P w K mg base N qual scope f cd A outer s H E).ex:=λb z=>absurd (show b∈([]:List Addr) from z) (by simp)
 refine⟨⟨e0.mod,S.kind,rfl,rfl,Nat.le_refl _,λy z c h1 h2=>?_,λy hy=>?_,λy c _ h=>?_,λ_=>hd,Around.frames_deeper e0.frames, .inr ⟨rfl,rfl⟩,λb z=>absurd z (noA b),e0.bs,e0.bsz,λb _ _=>noA b,λb z=>absurd z (noA b),e0.funs,e0.frf⟩,
  rfl,e0.bare,Un.kept hk,⟨_,x.toInCall.ns,λi y v h1 h2 h3=>?_⟩,λy c h=>⟨_,x.cell y c h⟩,e0.hok.fresh (Nat.le_refl _),λy c h=>?_,λp hp=>absurd (show p∈([]:List (Addr×Obj)) from hp) (by simp),e0.hok.kept hk,?_⟩
 ·exact name_of_addr x.apart (PySem.mem_of_lookup h1) (PySem.mem_of_lookup h2)
 ·have hy:scope.names.lookup y=some .cell∨scope.names.lookup y=some .free:=hy
  rcases hy with hy |hy
  ·exact GK hy
  ·exact absurd rfl (S.nofree _ (PySem.mem_of_lookup hy))
 ·exact Nat.le_of_lt (x.above y c (PySem.mem_of_lookup h))
 ·have hi:i<vs.length:=by
   unfold start at h2
   by_cases hi:i<vs.length
   ·exact hi
   ·rw[List.getElem?_append_right (by simpa using hi)] at h2
    rw[List.getElem?_replicate] at h2
    split at h2<;> cases h2
  have ha:vs[i]?=some v:=by
   unfold start at h2
   rw[List.getElem?_append_left (by simpa using hi),List.getElem?_map] at h2
   cases e:vs[i]? with
   |none=>rw[e] at h2;cases h2
   |some a=>rw[e] at h2;cases h2;rfl
  obtain⟨u,hu,rv⟩:=r.get ha
  have hp:ps[i]?=some y:=by
   rw[←S.pre,List.getElem?_take_of_lt (by omega)];exact h1
  have ndP:ps.Nodup:=by rw[←S.pre];exact S.nd.sublist (List.take_sublist _ _)
  refine⟨u,rv,?_⟩
  rcases S.par y (List.mem_of_getElem? hp) with k |k
  ·exact .inl ⟨k,Kv ndP hp hu k⟩
  ·obtain⟨c,e⟩:=GK (n:=s.heap.objs.size+1) k
   refine .inr ⟨.inl k,c,e,?_⟩
   have q:=x.cell y c e
   rw[Kp ndP hp hu (by show scope.names.lookup y≠_;rw[k];decide)] at q
   exact q
 ·exact e0.hok.fresh (Nat.le_of_lt (x.above y c (PySem.mem_of_lookup h)))
 ·unfold start
  show _=N.length
  rw[List.length_append,List.length_map,List.length_replicate]
  omega
theorem L7 {CX:CXT}{P:Program}{w:World}{K:PySem.W.Frag}{mg:Str->Option Value}{base:Heap}{k:Nat}{f:Addr}{name qual:Str}{params:Arguments}{body:List Stmt}{scope:Scope}{dV kV doc pm cdv ct oc:Value}{an od:Option Addr}
  {osl:Array (Option Value)}{N ps:List Str}{sp:Sp}(lk:K.lookup f=some ⟨oc,od, .func (PySem.W.fnOf name qual params body scope dV kV doc pm an cdv ct),osl⟩)(hcd:PySem.W.codeIn K cdv qual=true)(S:FnScope N ps scope)
  (len:∀vs H Q E,sp vs H Q E->vs.length=ps.length)
  (hbody:∀(A:Around) (outer:List Env) (s:Shared) (H:Hp) (vs:List V) (Q:VK) (E:XK),Room k (A.deeper (envOfC qual scope s.heap.objs.size f cdv))->sp vs H Q E->
   ∃t,PSs (Es CX P w K mg base N qual scope f cdv A outer s H E) body t/\t {nx:=λ_ H'=>Q .non H',rt:=Q} (start N vs) H):
  FnOk P w K mg base CX (k+1) f (PySem.W.fnOf name qual params body scope dV kV doc pm an cdv ct) ps sp:=by
 refine⟨len,λA outer s H args us vs Q E hr e0 hb r hsp=>?_⟩
 have hl:=len _ _ _ _ hsp
 have KX:K.In s.heap:=e0.mod.kin.keeps λb o e=>(e0.bs b o e).1
 have lim:s.heap.NoLimit:=e0.mod.nolimit.keeps λb o e=>(e0.bs b o e).1
 have hkind:∀y∈ps.zip us,scope.names.lookup y.1=some .local∨(scope.names.lookup y.1=some .cell/\((cellsFrom (s.heap.objs.size+1) scope.names []).lookup y.1).isSome=true):=λ⟨n,v⟩ hy=>by
  rcases S.par n (List.of_mem_zip hy).1 with q |q
  ·exact .inl q
  ·exact .inr ⟨q,PySem.W.cellsFrom_some _ _ _ (.inl q)⟩
 refine codeAny_call_function hr.depth (KX _ _ lk) rfl S.co S.gen rfl (PySem.W.codeRec_of KX hcd) (hb _ _ _ _ ?_)
 refine wpAny_newFunctionEnv_cells S.kind hkind λenv he s1 x=>?_
 subst he
 refine⟨lim.keeps x.toInCall.keep,codeAny_func ?_⟩
 obtain⟨t,ht,hq⟩:=hbody A outer s H vs Q E (hr.deeper _) hsp
 have I:Inv (Es CX P w K mg base N qual scope f cdv A outer s H E) [] (start N vs) H s1:=Dc S hr.hd e0 hl r x
 refine wpAny_mono (ht [] s1 (start N vs) H _ I hq) (λfl s' hs=>?_) λe s' hs=>hs
 have fin:∀{σ':St}{H':Hp}{v:V}{u:Value},Inv (Es CX P w K mg base N qual scope f cdv A outer s H E) [] σ' H' s'->Yc v u->Q v H'->CE outer P w H s Q u s':=
  fun {σ' H' v u} J rv q=>⟨v,H',J.os,J.bare,J.base,J.hok,rv,q⟩
 cases fl with
 |ret u=>
  obtain⟨v,σ',H',J,rv,q⟩:=hs
  exact fin J rv q
 |next=>
  obtain⟨σ',H',J,q⟩:=hs
  exact fin (v:=V.non) (u:=Value.none) J rfl q
 |brk=>
  obtain⟨_,_,_,q⟩:=hs
  exact False.elim q
 |cont=>
  obtain⟨_,_,_,q⟩:=hs
  exact False.elim q
section
variable {X:Cx}{x:Str}{p pos:Pos}{e:Expr}{es:List Expr}{t:TA}{id T:String}{r:List V->Hp->VK->Prop}
noncomputable def tCB (r:List V->Hp->VK->Prop)(t:TA):TE:=λσ H Q=>t σ H λvs H1=>r vs H1 Q
theorem Yp (hc:JI X (.builtin id) r)(hg:Gl X x)(hm:X.mg x=none)(hv:bootBuiltins x=some (.builtin id))(ha:PA X (e::es) t)(hn:x≠ "__name__":=by decide)(hdb:(x==("__debug__":Str))=false:=by decide)
  (he:starEach (e::es) X.env=(false,eval e X.env)::starEach es X.env:=by rfl)(hpl:(backTo pos (starEach es X.env)).any (·.1)=false:=by rfl):PE X (.Call (.Name x p) (e::es) [] pos) (tCB r t):=by
 intro pins s σ H Q I h
 refine wpAny_Call_Name_kw (VU I hg hm hv ?_ hn hdb)
 exact PyProof.Rows.callWith_builtin1 (thn (ha pos pins s σ H _ I h) λus s1 r9=>by obtain⟨vs,H1,I1,r1,q1⟩:=r9;exact hc pins s1 σ H1 vs us Q I1 r1 q1) he hpl
theorem Ct (hc:JI X (.type T) r)(hg:Gl X x)(hm:X.mg x=none)(hv:bootBuiltins x=some (.type T))(ha:PA X (e::es) t)(hn:x≠ "__name__":=by decide)(hdb:(x==("__debug__":Str))=false:=by decide)
  (he:starEach (e::es) X.env=(false,eval e X.env)::starEach es X.env:=by rfl)(hpl:(backTo pos (starEach es X.env)).any (·.1)=false:=by rfl):PE X (.Call (.Name x p) (e::es) [] pos) (tCB r t):=by
 intro pins s σ H Q I h
 refine wpAny_Call_Name_kw (VU I hg hm hv ?_ hn hdb)
 exact PyProof.Rows.callWith_type1 (thn (ha pos pins s σ H _ I h) λus s1 r9=>by obtain⟨vs,H1,I1,r1,q1⟩:=r9;exact hc pins s1 σ H1 vs us Q I1 r1 q1) he hpl
end
end L2
namespace HT
open PySem PyProof.Rows
section
open PySem.SeqAt
open PySem.AutoSeq1 (wpAny_loadPart')
open PySem.MeetsSeq PySem.MeetsSeq2 PySem.MeetsSeq3
end
section
variable {prog:Program}{w:World}{A:Around}{E:Value->Shared->Prop}{s:Shared}
noncomputable def sIx (n d:Nat):Option Int->Nat
 |none=>d
 |some v=>if v<0 then(v+(n:Int)).toNat else min v.toNat n
theorem sIx_none (n d:Nat):sIx n d none=d:=rfl
theorem sIx_nat (n d k:Nat):sIx n d (some (k:Int))=min k n:=by
 show(if(k:Int)<0 then((k:Int)+(n:Int)).toNat else min (k:Int).toNat n)=min k n
 rw[if_neg (by omega),Int.toNat_natCast]
end
end HT
namespace L2
open PySem PySem.Spec PyProof.Rows
noncomputable abbrev TO:=St->Hp->(Option Int->Hp->Prop)->Prop
noncomputable def PO (X:Cx)(e:Option Expr)(t:TO):Prop:=
 ∀(pins:List (Addr×Obj)) (s:Shared) (σ:St) (H:Hp) (Q:Option Int->Hp->Prop),Inv X pins σ H s->t σ H Q->
  wpAny (model X.prog X.w) X.A (evalPart e X.env) (λu s'=>∃ o H',Inv X pins σ H' s'/\IsPart u o/\Q o H') X.xe s
noncomputable def DS:TO:=λ_ H Q=>Q none H
noncomputable def IS (t:TE):TO:=λσ H Q=>t σ H λx H1=>∃ i,x= .int i/\Q (some i) H1
theorem GS {ns:List Int}:∀{us:List Value},Yl (ns.map V.int) us->IntsAre us ns:=by
 induction ns with
 |nil=>intro us r;rw[List.map_nil] at r;cases r;exact .nil
 |cons n ns ih=>
  intro us r
  rw[List.map_cons] at r
  cases r with
  |cons r1 r2=>
   obtain⟨t,e⟩:=r1
   subst e
   exact .cons n t (ih r2)
section
variable {X:Cx}{e:Expr}{te:TE}{lo hi:Option Expr}{tl th:TO}{pos p2:Pos}
theorem Jd:PO X none DS:=by
 intro pins s σ H Q I h
 rw[evalPart_none]
 exact wpAny_pure ⟨none,H,I, .none,h⟩
theorem Jy (h:PE X e te):PO X (some e) (IS te):=by
 intro pins s σ H Q I hw
 rw[evalPart_some]
 refine thn (h pins s σ H _ I hw) λu s1 r9=>?_
 obtain⟨x,H1,I1,r1,q1⟩:=r9
 obtain⟨i,rfl,q⟩:=q1
 obtain⟨t,rfl⟩:=r1
 exact⟨some i,H1,I1, .int i t,q⟩
noncomputable def SlR (X:Cx)(r:V->Option Int->Option Int->Hp->VK->Prop):Prop:=
 ∀(pins:List (Addr×Obj)) (s:Shared) (σ:St) (H:Hp) (x:V) (v vl vu:Value) (lo hi:Option Int) (sl:Addr) (Q:VK),Inv X pins σ H s->Yc x v->s.heap.IsSliceOf sl vl vu .none->IsPart vl lo->IsPart vu hi->r x lo hi H Q->
  ∃T id,typeLookup (.type T) "__getitem__" =pure (some (.builtin id))/\s.TypeIs v T/\wpAny (model X.prog X.w) X.A (getItem v (.ref sl)) (EP X pins σ Q) X.xe s
theorem SlR.or {r r':V->Option Int->Option Int->Hp->VK->Prop}(h:SlR X r)(h':SlR X r'):SlR X (λx lo hi H Q=>r x lo hi H Q∨r' x lo hi H Q):=by
 intro pins s σ H x v vl vu lo hi sl Q I rx hs pl pu q
 rcases q with q |q
 ·exact h pins s σ H x v vl vu lo hi sl Q I rx hs pl pu q
 ·exact h' pins s σ H x v vl vu lo hi sl Q I rx hs pl pu q
noncomputable def tSl (r:V->Option Int->Option Int->Hp->VK->Prop)(te:TE)(tl th:TO):TE:=λσ H Q=>te σ H λx H1=>tl σ H1 λl H2=>th σ H2 λu H3=>r x l u H3 Q
theorem Qo {r:V->Option Int->Option Int->Hp->VK->Prop}(hr:SlR X r)(he:PE X e te)(hl:PO X lo tl)(hu:PO X hi th):PE X (.Subscript e (.Slice lo hi none p2) pos) (tSl r te tl th):=by
 intro pins s σ H Q I h
 refine Subscript_ (thn (he pins s σ H _ I h) λv s1 r9=>?_)
 obtain⟨x,H1,I1,r1,q1⟩:=r9
 refine wpAny_Slice (thn (hl pins s1 σ H1 _ I1 q1) λvl s2 ⟨l,H2,I2,pl,q2⟩=>thn (hu pins s2 σ H2 _ I2 q2) λvu s3 r9=>?_)
 obtain⟨u,H3,I3,pu,q3⟩:=r9
 rw[evalPart_none]
 refine wpAny_pure ?_
 have I4:Inv X pins σ H3 {s3 with heap:=s3.heap.push {cls:=.type "slice",data:=.fields #[vl,vu, .none]}}:=I3.kept (t':=s3.toks) λb ob q=>Heap.get?_push_of_some _ q
 obtain⟨T,id,hT,ht,hg⟩:=hr pins {s3 with heap:=s3.heap.push {cls:=.type "slice",data:=.fields #[vl,vu, .none]}} σ H3 x v vl vu l u s3.heap.objs.size Q I4 r1 (Heap.IsSliceOf.new ..) pl pu q3
 show wpAny (model X.prog X.w) X.A (subscriptTail e (.Slice lo hi none p2) v (.ref s3.heap.objs.size)) (EP X pins σ Q) X.xe {s3 with heap:=s3.heap.push {cls:=.type "slice",data:=.fields #[vl,vu, .none]}}
 exact tail_any (ops:=[.ref s3.heap.objs.size,v]) ht hT hg (by with_unfolding_all rfl)
noncomputable def HP (xs:List V)(lo hi:Option Int):List V:=(xs.drop (HT.sIx xs.length 0 lo)).take (HT.sIx xs.length xs.length hi-HT.sIx xs.length 0 lo)
theorem K3 (xs:List V)(lo hi:Option Int):(HP xs lo hi).length<=xs.length:=by
 unfold HP
 rw[List.length_take,List.length_drop]
 omega
end
noncomputable def ixN (n:Nat)(i:Int):Option Nat:=if 0<=i then(if i<n then some i.toNat else none) else if-(n:Int)<=i then some (i+n).toNat else none
noncomputable def atI {α:Type}(xs:List α)(i:Int):Option α:=(ixN xs.length i).bind λj=>xs[j]?
theorem Fu {n:Nat}{i:Int}{j:Nat}(h:ixN n i=some j):seqIndex? i n=some j/\j<n/\ -(n:Int)<=i/\i<n:=by
 unfold ixN at h
 by_cases h0:0<=i
 ·rw[if_pos h0] at h
  by_cases h1:i<n
  ·rw[if_pos h1] at h
   have e:i.toNat=j:=Option.some.inj h
   exact⟨by rw[seqIndex_of h0 h1,e],by omega,by omega,h1⟩
  ·rw[if_neg h1] at h;cases h
 ·rw[if_neg h0] at h
  by_cases h1: -(n:Int)<=i
  ·rw[if_pos h1] at h
   have e:(i+n).toNat=j:=Option.some.inj h
   exact⟨by rw[seqIndex_neg (by omega) h1,e],by omega,h1,by omega⟩
  ·rw[if_neg h1] at h;cases h
theorem KP {α:Type}{xs:List α}{i:Int}{v:α}(h:atI xs i=some v):∃j,seqIndex? i xs.length=some j/\xs[j]?=some v/\j<xs.length/\ -(xs.length:Int)<=i/\i<xs.length:=by
 unfold atI at h
 cases e:ixN xs.length i with
 |none=>rw[e] at h;cases h
 |some j=>
  rw[e] at h
  obtain⟨h1,h2,h3,h4⟩:=Fu e
  exact⟨j,h1,h,h2,h3,h4⟩
noncomputable def HG (b:Expr):Prop:=∀ o i,subscripted b false o i=operate [o,i] (getItem o i)
noncomputable def IxR (X:Cx)(r:R2):Prop:=
 ∀(value slice:Expr) (pins:List (Addr×Obj)) (s:Shared) (σ:St) (H:Hp) (x y:V) (v u:Value) (Q:VK),Inv X pins σ H s->Yc x v->Yc y u->r x y H Q->
  subscripted slice false v u=operate [v,u] (getItem v u)->wpAny (model X.prog X.w) X.A (subscriptTail value slice v u) (EP X pins σ Q) X.xe s
noncomputable def MtR (X:Cx)(id:String)(r:V->List V->Hp->VK->Prop):Prop:=
 ∀(pins:List (Addr×Obj)) (s:Shared) (σ:St) (H:Hp) (x:V) (xs:List V) (v:Value) (us:List Value) (Q:VK),Inv X pins σ H s->Yc x v->Yl xs us->r x xs H Q->
  wpAny (model X.prog X.w) X.A (call (.builtin id) (v::us)) (EP X pins σ Q) X.xe s
section
variable {X:Cx}{a b:Expr}{ta tb:TE}{pos:Pos}
theorem IxR.or {r r':R2}(h:IxR X r)(h':IxR X r'):IxR X (λx y H Q=>r x y H Q∨r' x y H Q):=by
 intro value slice pins s σ H x y v u Q I rx ry q hs
 rcases q with q |q
 ·exact h value slice pins s σ H x y v u Q I rx ry q hs
 ·exact h' value slice pins s σ H x y v u Q I rx ry q hs
theorem MtR.or {id:String}{r r':V->List V->Hp->VK->Prop}(h:MtR X id r)(h':MtR X id r'):MtR X id (λx xs H Q=>r x xs H Q∨r' x xs H Q):=by
 intro pins s σ H x xs v us Q I rx rs q
 rcases q with q |q
 ·exact h pins s σ H x xs v us Q I rx rs q
 ·exact h' pins s σ H x xs v us Q I rx rs q
theorem XQ {r:R2}(hr:IxR X r)(ha:PE X a ta)(hb:PE X b tb)(hs:HG b):PE X (.Subscript a b pos) (tOp r ta tb):=by
 intro pins s σ H Q I h
 exact Subscript_ (LX ha hb I h λv u s2 x y H2 I2 rx ry q=>hr a b pins s2 σ H2 x y v u Q I2 rx ry q (hs _ _))
noncomputable def HF (K:PySem.W.Frag):R2:=λx y H Q=>∃ p xs i v,x= .ref p/\y= .int i/\SqL K H p xs/\atI xs i=some v/\Q v H
noncomputable def E1 (K:PySem.W.Frag):R2:=λx y H Q=>∃ p xs i v,x= .ref p/\y= .int i/\SqT K H p xs/\atI xs i=some v/\Q v H
theorem EV:IxR X (HF X.K):=by
 intro value slice pins s σ H x y v u Q I rx ry h hs
 obtain⟨p,xs,i,z,rfl,rfl,hq,he,q⟩:=h
 cases rx
 obtain⟨t,rfl⟩:=ry
 obtain⟨its,r,pl,hz⟩:=I.list hq
 obtain⟨j,h1,h2,h3,h4,h5⟩:=KP he
 obtain⟨w,ew,rw'⟩:=r.get h2
 have hl:=r.length
 have hn:=U5
 have fin:EP X pins σ Q w s:=⟨z,H,I,rw',q⟩
 by_cases h0:0<=i
 ·have hj:i.toNat=j:=by
   rw[seqIndex_of h0 h5] at h1
   exact Option.some.inj h1
  exact item_listR pl.isList h0 (by omega) (by rw[hj];simpa using ew) fin hs
 ·have hj:(i+(its.toArray.size:Int)).toNat=j:=by
   rw[seqIndex_neg (by omega) h4] at h1
   rw[List.size_toArray, ←hl]
   exact Option.some.inj h1
  exact subscriptTail_builtinR (x:=w) pl.isList.typeIs slot_list_getitem.lookup
   (wpAny_getItem_list_neg (Q:=λr s'=>r=w/\EP X pins σ Q r s') pl.isList (by omega) (by rw[List.size_toArray]<;> omega) (by omega) (by rw[hj];simpa using ew) ⟨rfl,fin⟩) hs
theorem IQ:IxR X (E1 X.K):=by
 intro value slice pins s σ H x y v u Q I rx ry h hs
 obtain⟨p,xs,i,z,rfl,rfl,hq,he,q⟩:=h
 cases rx
 obtain⟨t,rfl⟩:=ry
 obtain⟨its,r,pl,hz⟩:=I.tuple hq
 obtain⟨j,h1,h2,h3,h4,h5⟩:=KP he
 obtain⟨w,ew,rw'⟩:=r.get h2
 have hl:=r.length
 have hn:=U5
 have fin:EP X pins σ Q w s:=⟨z,H,I,rw',q⟩
 exact subscriptTail_builtinR (x:=w) pl.typeIs slot_tuple_getitem.lookup
  (getItem_tuple (j:=j) (Q:=λr s'=>r=w/\EP X pins σ Q r s') pl (by omega) (by omega) (by rw[List.size_toArray, ←hl];exact h1) (by simpa using ew) ⟨rfl,fin⟩) hs
theorem G7 (its:List Value)(n j:Nat)(u:Value):Obj.mapSeq (·.setIfInBounds j u) {cls:=.type "list",data:=.seq its.toArray n}={cls:=.type "list",data:=.seq (its.set j u).toArray n}:=by
 simp[Obj.mapSeq]
theorem Inv.lst {pins:List (Addr×Obj)}{σ:St}{H:Hp}{s:Shared}{p:Addr}{xs:List V}(I:Inv X pins σ H s)(h:H p=some (.lst xs)):
  ∃(its:List Value) (n:Nat),Yl xs its/\s.heap.get? p=some {cls:=.type "list",data:=.seq its.toArray n}/\xs.length<=sizeLine:=by
 obtain⟨z,its,n,r,e⟩:=I.hok p _ h
 exact⟨its,n,r,e,z⟩
theorem Inv.lstUpd {pins:List (Addr×Obj)}{σ:St}{H:Hp}{s:Shared}{p:Addr}{xs ys:List V}{its its':List Value}{n n':Nat}{f:Obj->Obj}(I:Inv X pins σ H s)(h:H p=some (.lst xs))
  (ho:s.heap.get? p=some {cls:=.type "list",data:=.seq its.toArray n})(hf:f {cls:=.type "list",data:=.seq its.toArray n}={cls:=.type "list",data:=.seq its'.toArray n'})(r:Yl ys its')(hz:ys.length<=sizeLine)(t:Nat):
  Inv X pins σ (upd H p (.lst ys)) {s with heap:=s.heap.update p f,toks:=t}:=by
 have e:(s.heap.update p f).get? p=some {cls:=.type "list",data:=.seq its'.toArray n'}:=by
  rw[Heap.get?_update_self f ho (by rw[hf]<;> rfl),hf]
 refine I.write (x:=p) (e:=p) (by rw[h];trivial) (.inl rfl) (λb u hb q=>(Heap.get?_update_other _ _ (Ne.symm hb)).trans q) ⟨_,e⟩ ?_
 exact⟨hz,its',n',r,e⟩
noncomputable def He:V->V->V->Hp->(Hp->Prop)->Prop:=λo i v H Q=>∃ p xs k j,o= .ref p/\i= .int k/\H p=some (.lst xs)/\ixN xs.length k=some j/\Q (upd H p (.lst (xs.set j v)))
theorem Qp:LN X He:=by
 intro pins s σ H o i v ov iv u Q I ro ri rv h
 obtain⟨p,xs,k,j,rfl,rfl,hp,hj,q⟩:=h
 cases ro
 obtain⟨t,rfl⟩:=ri
 obtain⟨its,n,r,ho,hz⟩:=I.lst hp
 obtain⟨h1,h2,h3,h4⟩:=Fu hj
 have hl:=r.length
 have hn:=U5
 have I':Inv X pins σ (upd H p (.lst (xs.set j v))) {s with heap:=s.heap.update p (Obj.mapSeq (·.setIfInBounds j u))}:=
  I.lstUpd hp ho (G7 its n j u) (r.set rv j) (by rw[List.length_set];exact hz) s.toks
 by_cases h0:0<=k
 ·have hk:k.toNat=j:=by
   rw[seqIndex_of h0 h4] at h1
   exact Option.some.inj h1
  exact PySem.W.ki_setAt ho h0 (by omega) (by rw[List.size_toArray, ←hl];exact h4) (by rw[hk];exact⟨_,I',q⟩)
 ·have hk:(k+(its.toArray.size:Int)).toNat=j:=by
   rw[seqIndex_neg (by omega) h3] at h1
   rw[List.size_toArray, ←hl]
   exact Option.some.inj h1
  exact PySem.W.ki_setBack ho (by omega) (by rw[List.size_toArray, ←hl];exact h3) (by omega) (by rw[hk];exact⟨_,I',q⟩)
theorem Kx (lo hi:Option Int)(n:Nat):(sliceBounds lo hi none n).1=((HT.sIx n 0 lo:Nat):Int)/\(sliceBounds lo hi none n).2.1=((HT.sIx n n hi:Nat):Int)/\(sliceBounds lo hi none n).2.2=1:=by
 refine⟨?_,?_,rfl⟩
 ·cases lo with
  |none=>simp[sliceBounds,HT.sIx]
  |some i=>
   simp only[sliceBounds,HT.sIx,Option.getD_none,show(1:Int) > 0 by decide,if_true]
   by_cases h:i<0
   ·simp only[h,if_true]<;> omega
   ·simp only[h,if_false]<;> omega
 ·cases hi with
  |none=>simp[sliceBounds,HT.sIx]
  |some i=>
   simp only[sliceBounds,HT.sIx,Option.getD_none,show(1:Int) > 0 by decide,if_true]
   by_cases h:i<0
   ·simp only[h,if_true]<;> omega
   ·simp only[h,if_false]<;> omega
theorem Uh (its:List Value)(lo hi:Option Int):slicePick its.toArray lo hi none=((its.drop (HT.sIx its.length 0 lo)).take (HT.sIx its.length its.length hi-HT.sIx its.length 0 lo)).toArray:=by
 obtain⟨h1,h2,h3⟩:=Kx lo hi its.toArray.size
 unfold slicePick
 rw[h1,h2,h3]
 simp only[sliceRange_one,pick_run,List.size_toArray]<;> rfl
noncomputable def LE (K:PySem.W.Frag):V->Option Int->Option Int->Hp->VK->Prop:=λx lo hi H Q=>∃ a xs,x= .ref a/\SqL K H a xs/\∀p,H p=none->Q (.ref p) (upd H p (.lst (HP xs lo hi)))
theorem Hz:SlR X (LE X.K):=by
 intro pins s σ H x v vl vu lo hi sl Q I rx hs pl pu h
 obtain⟨a,xs,rfl,hx,q⟩:=h
 cases rx
 obtain⟨its,r,ht,hz⟩:=I.list hx
 have hlen:=r.length
 refine⟨"list",_,slot_list_getitem.lookup,ht.isList.typeIs,?_⟩
 refine wpAny_getItem_list_slice ht.isList hs pl pu .none (by simp) ?_ (by rw[List.size_toArray]<;> omega)
 rw[Uh, ←hlen]
 refine⟨.ref s.heap.objs.size,_,I.laid (t':=s.toks) (o:=.lst (HP xs lo hi)) (λb ob q=>Heap.get?_push_of_some _ q) (Nat.le_refl _) ?_,rfl,q _ (I.hok.fresh (Nat.le_refl _))⟩
 exact⟨Nat.le_trans (K3 xs lo hi) hz,_,0,(r.drop (HT.sIx xs.length 0 lo)).take (HT.sIx xs.length xs.length hi-HT.sIx xs.length 0 lo),Heap.get?_push_size _ rfl⟩
noncomputable def JJ:V->Bool
 | .non=>true
 | .bl _=>true
 | .int _=>true
 | .str _=>true
 |_=>false
noncomputable def eqV:V->V->Bool
 | .non, .non=>true
 | .bl a, .bl b=>a==b
 | .bl a, .int b=>(if a then 1 else 0)==b
 | .int a, .bl b=>a==(if b then 1 else 0)
 | .int a, .int b=>a==b
 | .str a, .str b=>a==b
 |_,_=>false
theorem I0 {A:Around}{s:Shared}{y x:V}{u v:Value}(ry:Yc y u)(rx:Yc x v)(fy:JJ y=true)(fx:JJ x=true):SeqAt.EqAt A s u v (eqV y x):=by
 cases y with
 |non=>
  cases ry
  cases x with
  |non=>cases rx;exact SeqAt.EqAt.same _
  |bl b=>cases rx;exact SeqAt.EqAt.none_bool b
  |int b=>obtain⟨t,rfl⟩:=rx;exact SeqAt.EqAt.none_int b t
  |str b=>obtain⟨t,rfl⟩:=rx;exact SeqAt.EqAt.none_str b t
  |_=>exact absurd (show false=true from fx) Bool.false_ne_true
 |bl a=>
  cases ry
  cases x with
  |non=>cases rx;exact SeqAt.EqAt.bool_none a
  |bl b=>cases rx;exact SeqAt.EqAt.bool_bool a b
  |int b=>obtain⟨t,rfl⟩:=rx;exact SeqAt.EqAt.bool_int a b t
  |str b=>obtain⟨t,rfl⟩:=rx;exact SeqAt.EqAt.bool_str a b t
  |_=>exact absurd (show false=true from fx) Bool.false_ne_true
 |int a=>
  obtain⟨t',rfl⟩:=ry
  cases x with
  |non=>cases rx;exact SeqAt.EqAt.int_none a t'
  |bl b=>cases rx;exact SeqAt.EqAt.int_bool a t' b
  |int b=>obtain⟨t,rfl⟩:=rx;exact SeqAt.EqAt.int_int a t' b t
  |str b=>obtain⟨t,rfl⟩:=rx;exact SeqAt.EqAt.int_str a t' b t
  |_=>exact absurd (show false=true from fx) Bool.false_ne_true
 |str a=>
  obtain⟨t',rfl⟩:=ry
  cases x with
  |non=>cases rx;exact SeqAt.EqAt.str_none a t'
  |bl b=>cases rx;exact SeqAt.EqAt.str_bool a t' b
  |int b=>obtain⟨t,rfl⟩:=rx;exact SeqAt.EqAt.str_int a t' b t
  |str b=>obtain⟨t,rfl⟩:=rx;exact SeqAt.EqAt.str_str a t' b t
  |_=>exact absurd (show false=true from fx) Bool.false_ne_true
 |_=>exact absurd (show false=true from fy) Bool.false_ne_true
noncomputable def eqU (x:V)(u:Value):Bool:=match u with
 | .none=>eqV .non x
 | .bool b=>eqV (.bl b) x
 | .int i _=>eqV (.int i) x
 | .str z _=>eqV (.str z) x
 |_=>false
theorem Dd {x y:V}{u:Value}(r:Yc y u)(f:JJ y=true):eqU x u=eqV y x:=by
 cases y with
 |non=>cases r;rfl
 |bl b=>cases r;rfl
 |int i=>obtain⟨t,rfl⟩:=r;rfl
 |str z=>obtain⟨t,rfl⟩:=r;rfl
 |_=>exact absurd (show false=true from f) Bool.false_ne_true
theorem K5 {x:V}:∀{xs:List V}{us:List Value},Yl xs us->xs.all JJ=true->us.any (eqU x)=xs.any λy=>eqV y x
 |_,_, .nil,_=>rfl
 |y::xs,u::us, .cons r t,f=>by
  rw[List.all_cons,Bool.and_eq_true] at f
  rw[List.any_cons,List.any_cons,Dd r f.1,K5 t f.2]
theorem JM {A:Around}{s:Shared}{x:V}{v:Value}(rx:Yc x v)(fx:JJ x=true):∀{xs:List V}{us:List Value},Yl xs us->xs.all JJ=true->∀u∈us,SeqAt.EqAt A s u v (eqU x u)
 |_,_, .nil,_=>λu hu=>by cases hu
 |y::xs,u::us, .cons r t,f=>λu' hu=>by
  rw[List.all_cons,Bool.and_eq_true] at f
  rcases List.mem_cons.mp hu with rfl |hu
  ·rw[Dd r f.1];exact I0 r rx f.1 fx
  ·exact JM rx fx t f.2 u' hu
noncomputable def inV (x:V)(xs:List V):Bool:=xs.any λy=>eqV y x
noncomputable def rIn (K:PySem.W.Frag)(neg:Bool):R2:=λx y H Q=>∃ p xs,y= .ref p/\(SqL K H p xs∨SqT K H p xs)/\JJ x=true/\xs.all JJ=true/\Q (.bl (if neg then !inV x xs else inV x xs)) H
theorem DO:OpR X (compareOp .In) (rIn X.K false):=by
 intro pins s σ H x y v u Q I rx ry h
 obtain⟨p,xs,rfl,hq,fx,fs,q⟩:=h
 cases ry
 rcases hq with hq |hq
 ·obtain⟨its,r,pl,hz⟩:=I.list hq
  refine SeqAt.in_listAt (eqU x) pl.isList (λw hw=>JM rx fx r fs w (by simpa using hw)) ⟨.bl _,H,I,rfl,?_⟩
  rw[show its.toArray.any (eqU x)=its.any (eqU x) by simp,K5 r fs]
  exact q
 ·obtain⟨its,r,pl,hz⟩:=I.tuple hq
  refine SeqAt.in_tupleAt (eqU x) pl (λw hw=>JM rx fx r fs w (by simpa using hw)) ⟨.bl _,H,I,rfl,?_⟩
  rw[show its.toArray.any (eqU x)=its.any (eqU x) by simp,K5 r fs]
  exact q
theorem Ku:JI X (.builtin "len") (λxs H Q=>∃ p ys,xs=[.ref p]/\(SqL X.K H p ys∨SqT X.K H p ys)/\Q (.int ys.length) H):=by
 intro pins s σ H xs us Q I r h
 obtain⟨p,ys,rfl,hq,q⟩:=h
 obtain⟨u,rfl,rx⟩:=HD r
 cases rx
 have hn:=U5
 rcases hq with hq |hq
 ·obtain⟨its,r',pl,hz⟩:=I.list hq
  have hlen:=r'.length
  exact Calls.call_len_list pl.isList (by simp only[List.size_toArray]<;> omega) ⟨.int ys.length,H,I.tok _,⟨s.toks+1,by rw[List.size_toArray,hlen]⟩,q⟩
 ·obtain⟨its,r',pl,hz⟩:=I.tuple hq
  have hlen:=r'.length
  exact len_tuple pl (by simp only[List.size_toArray]<;> omega) ⟨.int ys.length,H,I.tok _,⟨s.toks+1,by rw[List.size_toArray,hlen]⟩,q⟩
theorem JI.or {f:Value}{r r':List V->Hp->VK->Prop}(h:JI X f r)(h':JI X f r'):JI X f (λxs H Q=>r xs H Q∨r' xs H Q):=by
 intro pins s σ H xs us Q I rs q
 rcases q with q |q
 ·exact h pins s σ H xs us Q I rs q
 ·exact h' pins s σ H xs us Q I rs q
noncomputable def tyV (K:PySem.W.Frag)(T:String)(x:V)(H:Hp):Prop:=match x with
 | .str _=>T= "str"
 | .int _=>T= "int"
 | .ref p=>(T= "list" /\∃xs,SqL K H p xs)∨(T= "tuple" /\∃o,K.lookup p=some o/\o.cls= .type "tuple" /\o.dict=none)∨
   (T= "dict" /\((∃kvs,H p=some (.dK kvs))∨∃kvs,H p=some (.dT kvs)))∨(T= "set" /\∃S n,H p=some (.set S n))
 |_=>False
theorem Ig {pins:List (Addr×Obj)}{σ:St}{H:Hp}{s:Shared}{T:String}{x:V}{v:Value}(I:Inv X pins σ H s)(r:Yc x v)(ty:tyV X.K T x H):
  s.TypeIs v T/\∀a,v= .ref a->∃ob,s.heap.get? a=some ob/\ob.dict=none:=by
 cases x with
 |str z=>
  obtain⟨t,rfl⟩:=r
  cases(show T= "str" from ty)
  exact⟨typeIs_str s z t,λ_ e=>nomatch e⟩
 |int i=>
  obtain⟨t,rfl⟩:=r
  cases(show T= "int" from ty)
  exact⟨typeIs_int s i t,λ_ e=>nomatch e⟩
 |ref p=>
  cases r
  rcases ty with⟨rfl,xs,hq⟩ | ⟨rfl,o,hk,hc,hd⟩ | ⟨rfl,hk⟩ | ⟨rfl,S,n,hk⟩
  ·obtain⟨its,_,pl,_⟩:=I.list hq
   refine⟨pl.isList.typeIs,λa e=>?_⟩
   cases e
   obtain⟨o,n,e,c,hd,_⟩:=pl
   exact⟨o,e,hd⟩
  ·refine⟨⟨o,I.kIn p o hk,hc⟩,λa e=>?_⟩
   cases e
   exact⟨o,I.kIn _ o hk,hd⟩
  ·have z:∃o,s.heap.get? p=some o/\o.ExactDict:=by
    rcases hk with⟨kvs,hk⟩ | ⟨kvs,hk⟩
    ·obtain⟨_,_,_,_,o,_,_,e,ex,_⟩:=I.hok p _ hk
     exact⟨o,e,ex⟩
    ·obtain⟨_,_,_,_,o,_,_,e,ex,_⟩:=I.hok p _ hk
     exact⟨o,e,ex⟩
   obtain⟨o,e,ex⟩:=z
   refine⟨⟨o,e,ex.1⟩,λa e2=>?_⟩
   cases e2
   exact⟨o,e,ex.2.1⟩
  ·obtain⟨o,_,_,_,e,ex,_⟩:=I.hok p _ hk
   refine⟨⟨o,e,ex.1⟩,λa e2=>?_⟩
   cases e2
   exact⟨o,e,ex.2.1⟩
 |_=>exact False.elim ty
noncomputable def tBM (K:PySem.W.Frag)(T:String)(r:V->List V->Hp->VK->Prop)(to:TE)(t:TA):TE:=λσ H Q=>to σ H λx H1=>tyV K T x H1/\t σ H1 λxs H2=>r x xs H2 Q
variable {o e:Expr}{es:List Expr}{to:TE}{t:TA}{name:Str}{apos cpos:Pos}{T id:String}{r:V->List V->Hp->VK->Prop}
theorem Jq (pa:PlainAttrs T)(slot:Slot T name id)(hty:typeOf (.builtin id)=pure (.type "method_descriptor"))(hm:MtR X id r)(ho:PE X o to)(ha:PA X (e::es) t)
  (hbase:attributeBase o name X.env (eval o X.env)=eval o X.env:=by rfl)
  (hfew:((backTo cpos (starEach (e::es) X.env)).all (λx=>!x.1)&&(backToKw cpos (keywordEach [] X.env)).all (λx=>x.1.isSome)
   &&decide ((e::es).length+([]:List Keyword).length+(if([]:List Keyword).isEmpty then 0 else 1)<30))=true:=by rfl)
  (hline:(apos.endLine==cpos.line)=true:=by rfl)(hs:starEach (e::es) X.env=(false,eval e X.env)::starEach es X.env:=by rfl)(hplain:(backTo cpos (starEach es X.env)).any (·.1)=false:=by rfl):
  PE X (.Call (.Attribute o name apos) (e::es) [] cpos) (tBM X.K T r to t):=by
 intro pins s σ H Q I h
 refine wpAny_Call_method_late hbase hfew hline rfl (thn (ho pins s σ H _ I h) λv s1 r9=>?_)
 obtain⟨x,H1,I1,r1,ty,q1⟩:=r9
 obtain⟨h1,h2⟩:=Ig I1 r1 ty
 refine⟨T,id,pa,slot,hty,h1,h2,?_⟩
 have hA:=ha cpos pins s1 σ H1 _ I1 q1
 rw[hs] at hA⊢
 refine Calls.callWith_builtin (by show(false || (backTo cpos (starEach es X.env)).any (·.1))=false;rw[hplain]<;> rfl) (Calls.evalArgs_plain ?_)
 exact thn hA λus s2 r9=>by obtain⟨vs,H2,I2,r2,q2⟩:=r9;exact hm pins s2 σ H2 x vs v us Q I2 r1 r2 q2
/- xs.append(e), list.index on a module's tuple .. are MtR facts of 06m -/
end
noncomputable def MtM (X:Cx)(id:String)(r:V->List V->Hp->VK->Prop):Prop:=
 ∀(pins:List (Addr×Obj)) (s:Shared) (σ:St) (H:Hp) (x:V) (xs:List V) (v:Value) (us:List Value) (Q:VK),Inv X pins σ H s->Yc x v->Yl xs us->r x xs H Q->
  wpAny (model X.prog X.w) X.A (call (.builtin id) (v::us)) (EP X pins σ Q) X.xe s
theorem Yl.one:∀{x:V}{us:List Value},Yl [x] us->∃u,us=[u]/\Yc x u:=fun {x us} h=>by
 cases h with
 |cons r t=>
  cases t
  exact⟨_,rfl,r⟩
theorem Yl.two:∀{x y:V}{us:List Value},Yl [x,y] us->∃u v,us=[u,v]/\Yc x u/\Yc y v:=fun {x y us} h=>by
 cases h with
 |cons r t=>
  cases t with
  |cons q t=>
   cases t
   exact⟨_,_,rfl,r,q⟩
theorem Yl.zero:∀{us:List Value},Yl [] us->us=[]
 |_, .nil=>rfl
theorem Yl.reverse {xs:List V}{us:List Value}(h:Yl xs us):Yl xs.reverse us.reverse:=by
 induction h with
 |nil=>exact .nil
 |cons r t ih=>rw[List.reverse_cons,List.reverse_cons];exact Yl.append ih (.cons r .nil)
theorem Yl.rep {xs:List V}{us:List Value}(h:Yl xs us):∀k:Nat,Yl (List.replicate k xs).flatten (List.replicate k us).flatten
 |0=>.nil
 |k+1=>by
  rw[List.replicate_succ,List.replicate_succ,List.flatten_cons,List.flatten_cons]
  exact Yl.append h (Yl.rep h k)
theorem UQ (its:List Value):∀(k:Nat) (acc:List Value),
  List.foldl (λx1 x2=>x1++x2) acc.toArray (List.replicate k its.toArray)=(acc++(List.replicate k its).flatten).toArray
 |0,acc=>by simp
 |k+1,acc=>by
  have e:acc.toArray++its.toArray=(acc++its).toArray:=by simp
  have e2:(acc++its)++(List.replicate k its).flatten=acc++(List.replicate (k+1) its).flatten:=by
   rw[List.replicate_succ,List.flatten_cons,List.append_assoc]
  rw[←e2, ←UQ its k (acc++its), ←e,List.replicate_succ,List.foldl_cons]
section
variable {X:Cx}{pins:List (Addr×Obj)}{σ:St}{H:Hp}{s:Shared}{l b:Addr}{xs ys zs:List V}
theorem Inv.lset {its its':List Value}{n:Nat}{f:Array Value->Array Value}{t':Nat}(I:Inv X pins σ H s)(hH:H l=some (.lst xs))
  (e:s.heap.get? l=some {cls:=.type "list",data:=.seq its.toArray n})(hf:f its.toArray=its'.toArray)(hv:Yl ys its')(hz:ys.length<=sizeLine):
  Inv X pins σ (upd H l (.lst ys)) {s with heap:=s.heap.update l (Obj.mapSeq f),toks:=t'}:=by
 have q:=PySem.IsL.update e f
 rw[hf] at q
 refine I.write (x:=l) (e:=l) (by rw[hH];exact trivial) (.inl rfl) (λb' u hb hu=>(Heap.get?_update_other s.heap (Obj.mapSeq f) (Ne.symm hb)).trans hu) ⟨_,q⟩ ?_
 exact⟨hz,its',_,hv,q⟩
theorem Inv.lnew {its:List Value}{t':Nat}(I:Inv X pins σ H s)(hv:Yl ys its)(hz:ys.length<=sizeLine):
  Inv X pins σ (upd H s.heap.objs.size (.lst ys)) {s with heap:=s.heap.push {cls:=.type "list",data:=.seq its.toArray},toks:=t'}:=
 I.laid (λ_ _ q=>Heap.get?_push_of_some _ q) (Nat.le_refl _) ⟨hz,its,0,hv,Heap.get?_push_size _ rfl⟩
theorem Inv.fresh (I:Inv X pins σ H s):H s.heap.objs.size=none:=I.hok.fresh (Nat.le_refl _)
theorem Inv.lstM (I:Inv X pins σ H s)(hH:H l=some (.lst xs)):xs.length<=sizeLine/\∃(its:List Value) (n:Nat),Yl xs its/\xs.length=its.length/\s.heap.get? l=some {cls:=.type "list",data:=.seq its.toArray n}:=by
 obtain⟨z,its,n,r,e⟩:=I.hok l _ hH
 exact⟨z,its,n,r,r.length,e⟩
theorem BW {n:Nat}(h:n<=sizeLine):Builtin.List.listTooLong n=false:=by
 unfold Builtin.List.listTooLong
 exact decide_eq_false (by omega)
end
section
variable {X:Cx}
noncomputable def KW:V->List V->Hp->VK->Prop:=λx vs H Q=>∃ l xs y,x= .ref l/\vs=[y]/\H l=some (.lst xs)/\xs.length<sizeLine/\Q .non (upd H l (.lst (xs++[y])))
theorem Yh:MtM X "list.append" KW:=by
 intro pins s σ H x vs v us Q I rx rv h
 obtain⟨l,xs,y,rfl,rfl,hH,hz,q⟩:=h
 cases rx
 obtain⟨u,rfl,ru⟩:=rv.one
 obtain⟨z,its,n,r,hl,e⟩:=I.lstM hH
 refine call_meets F.slot_list_append ⟨_,e,rfl⟩ F.entry_list_append (F.args_list_append_2 _ _) (PySem.list_append l its.toArray n u (by rw[List.size_toArray];omega)) ⟨e,?_⟩
 refine⟨.non,_,I.lset (its':=its++[u]) hH e (by simp) (r.append (.cons ru .nil)) ?_,rfl,q⟩
 rw[List.length_append,List.length_singleton]
 omega
noncomputable def LZ:R2:=λx y H Q=>∃ l b xs zs,x= .ref l/\y= .ref b/\H l=some (.lst xs)/\H b=some (.lst zs)/\xs.length+zs.length<=sizeLine/\∀p,H p=none->Q (.ref p) (upd H p (.lst (xs++zs)))
theorem Zk:OpR X (binaryOp .Add) LZ:=by
 intro pins s σ H x y v u Q I rx ry h
 obtain⟨l,b,xs,zs,rfl,rfl,hH,hB,hz,q⟩:=h
 cases rx
 cases ry
 obtain⟨z,its,n,r,hl,e⟩:=I.lstM hH
 obtain⟨z2,its2,n2,r2,hl2,e2⟩:=I.lstM hB
 refine PySem.P.add_list e e2 ?_ (by rw[List.size_toArray,List.size_toArray];omega)
 have ea:its.toArray++its2.toArray=(its++its2).toArray:=by simp
 rw[ea]
 exact⟨.ref _,_,I.lnew (t':=s.toks) (r.append r2) (by rw[List.length_append];omega),rfl,q _ I.fresh⟩
noncomputable def Mq:R2:=λx y H Q=>∃ l k xs,x= .ref l/\y= .int k/\H l=some (.lst xs)/\ -(2^63)<=k/\k<2^63/\xs.length*k.toNat<=sizeLine/\
 ∀p,H p=none->Q (.ref p) (upd H p (.lst (List.replicate k.toNat xs).flatten))
theorem EA {α:Type}(xs:List α)(k:Nat):(List.replicate k xs).flatten.length=k*xs.length:=by
 induction k with
 |zero=>simp
 |succ k ih=>rw[List.replicate_succ,List.flatten_cons,List.length_append,ih,Nat.succ_mul,Nat.add_comm]
theorem Gr:OpR X (binaryOp .Mult) Mq:=by
 intro pins s σ H x y v u Q I rx ry h
 obtain⟨l,k,xs,rfl,rfl,hH,h1,h2,hz,q⟩:=h
 cases rx
 obtain⟨t,rfl⟩:=ry
 obtain⟨z,its,n,r,hl,e⟩:=I.lstM hH
 have hlen:its.toArray.size*k.toNat<=sizeLine:=by rw[List.size_toArray, ←hl];exact hz
 have hcap:¬its.toArray.size*k.toNat > (2^63-1)/8:=by
  have:(sizeLine:Nat)<=(2^63-1)/8:=by decide
  omega
 have hfit:¬(!Builtin.List.listFitsIndex k)=true:=by
  rw[fitsIndex_both h1 h2]
  exact Bool.false_ne_true
 have hlong:¬Builtin.List.listTooLong (its.toArray.size*k.toNat)=true:=by
  rw[BW hlen]
  exact Bool.false_ne_true
 have hnew:List.foldl (λx1 x2=>x1++x2) #[] (List.replicate (if its.toArray.isEmpty=true then 0 else k.toNat) its.toArray)=(List.replicate k.toNat its).flatten.toArray:=by
  have f0:∀m:Nat,List.foldl (λx1 x2=>x1++x2) #[] (List.replicate m its.toArray)=(List.replicate m its).flatten.toArray:=λm=>by
   have:=UQ its m []
   rw[List.nil_append] at this
   exact this
  rw[f0]
  cases its with
  |nil=>simp
  |cons a r'=>rw[if_neg (by simp)]
 refine wpAny_binaryOp_repeat_ref (T:="list") (U:="int") (by decide) ⟨_,e,rfl⟩ (λs'=>typeIs_int s' k t) noFill_list_mul F.fills_int_mul F.slot_int_rmul repeat_list F.slot_int_index.lookup
  (call_meets F.slot_int_rmul (typeIs_int s k t) F.entry_int_rmul (F.args_int_rmul_2 _ _) (int___rmul___int_list k t l its.toArray n)
   ⟨e,rfl,⟨_,e,rfl⟩,call_meets F.slot_list_mul ⟨_,e,rfl⟩ F.entry_list_mul (F.args_list_mul_2 _ _) (AutoListH.list___mul___list_int_3 l its.toArray n k t hfit hcap hlong) ⟨e,?_⟩⟩)
 rw[hnew]
 exact⟨.ref _,_,I.lnew (t':=s.toks) (r.rep k.toNat) (by rw[EA,Nat.mul_comm];exact hz),rfl,q _ I.fresh⟩
end
section
variable {prog:Program}{w:World}{A:Around}{E:Value->Shared->Prop}{s:Shared}
end
section
variable {X:Cx}
end
end L2
namespace Att
open PySem PySem.W PySem.Calls PyProof.Rows
theorem J2 {P:Params}{h:Heap}:∀(ns:List Int) (vs:List Value),WellAll P h vs (ns.map WData.int)->IntsAre vs ns:=by
 intro ns
 induction ns with
 |nil=>
  intro vs w
  rw[List.map_nil] at w
  cases w
  exact .nil
 |cons n ns ih=>
  intro vs w
  rw[List.map_cons] at w
  cases w with
  |cons a b=>
   cases a
   exact .cons _ _ (ih _ b)
theorem FH {l:OpenLaw}{n:Nat}(hn:l.most=some n){P:Params}{h:Heap}{args:List WData}{vals:List Value}
  (hpre:l.row.toRowW.claim.pre args=true)(hwl:WellAll P h vals args):
  ∃a vs ns,vals=[Value.ref a]/\args=[WData.list (ns.map WData.int)]/\h.get? a=some {cls:=.type "list",data:=.seq vs.toArray}/\IntsAre vs ns/\ns.length<=n:=by
 have hsh:WShape.hasAll [] args [.list .int]=true:=(pre_splitW hpre).1
 have hc:l.pre.holds [] {args:=args}=true:=(pre_splitW hpre).2
 obtain⟨d,r,rfl,h1,h2⟩:=hasAllW_cons hsh
 obtain rfl:=hasAllW_nil h2
 obtain⟨xs,rfl,h3⟩:=hasW_list h1
 obtain⟨ns,rfl⟩:=items_int h3
 have hlen:ns.length<=n:=by
  unfold OpenLaw.pre at hc
  have h4:(WTm.not (.lt (.lit (.int (n:Int))) (.len (.arg 0)))).holds [] {args:=[.list (ns.map .int)]}=true:=by
   have h4:=(holds_andW hc).1
   rw[hn] at h4
   exact h4
  have h5:=condW_of h4 (w_not (w_lt w_lit (w_len_list (w_arg rfl))))
  rw[List.length_map] at h5
  refine Nat.le_of_not_lt λq=>?_
  have q':(n:Int)<((ns.length:Nat):Int):=by omega
  first
   | (rw[decide_eq_true q'] at h5;exact absurd h5 (by decide))
   | (simp at h5;omega)
 cases hwl with
 |cons w1 w2=>
  cases w2
  cases w1 with
  |list ho hall=>exact⟨_,_,ns,rfl,rfl,ho,J2 ns _ hall,hlen⟩
theorem Fo (l:OpenLaw)(args:List WData):l.row.toRowW.claim.post args (.bool true) args=true:=
 postW_of (r:=l.row.toRowW) (X:=(true==true))
  (show WShape.has [] (.bool true) .bool=true by first |rfl |decide |simp[WShape.has,WShape.arms,WShape.armsAll])
  (show(WTm.eq .res (.lit (.bool true))).value [] {args:=args,res:=some (.bool true),after:=args}=some (.bool (true==true)) from w_eq_bool (w_res rfl) w_lit) rfl
theorem attach_call {l:OpenLaw}{n:Nat}{q:Program}{loose:List Str}{XP:(Str->Option Value)->Heap->Prop}{YP:World->Heap->Prop}{d:DefRec}
  (hn:l.most=some n)(hdf:d.params.defaults=[])
  (call:∀(w:World) (s₀ s₁:Shared) (mg mb:Str->Option Value) (fa:Addr) (o:Obj) (pm cd doc:Value) (a:Addr) (vs:List Value) (ns:List Int),
   Ground q loose [] XP w s₀ mg mb s₁.heap->YP w s₁.heap->
   s₁.heap.get? fa=some o->o.data= .func (docDef d.name d.params d.body d.scope pm cd doc)->s₁.heap.CodeRec cd d.name->mg d.name=some (.ref fa)->
   s₁.heap.get? a=some {cls:=.type "list",data:=.seq vs.toArray}->IntsAre vs ns->ns.length<=n->s₁.gens= #[]->
   codeAny (model l.prog w) callerA (.call (.ref fa) ⟨[.ref a],[]⟩) (λr s'=>r= .ok (.ret (.bool true))/\OldK s₁.heap s'.heap/\s'.os=s₁.os/\AllBare s'.gens) s₁):
  WalkO q loose XP YP l.row.toRowW d [] (λf vs=>PySem.call f vs):=by
 intro w s₀ s₁ mg mb G Y fa o pm cd doc dV kV ho hd hcd hD hmg hg args vals as hpre hlay hrd hwl hlo
 obtain rfl:dV= .none:=Dflts.none hD hdf
 obtain rfl:kV= .none:=Dflts.noKw hD
 obtain⟨a,vs,ns,rfl,rfl,hobj,hints,hlen⟩:=FH hn hpre hwl
 refine enter_call (codeAny_mono (call w s₀ s₁ mg mb fa o pm cd doc a vs ns G Y ho (fd_plain hd) hcd hmg hobj hints hlen hg) λr s' hq=>?_)
 obtain⟨rfl,h2,h3,h4⟩:=hq
 exact⟨.inl ⟨.bool true, .bool true,[],rfl,λ_=>rfl, .bool true,Fo l _,λ_=>⟨List.Pairwise.nil,λ_ hm=>(nomatch hm)⟩⟩,h2,h3,h4⟩
section
variable {prog:Program}{w:World}{A:Around}{E:Value->Shared->Prop}{s:Shared}{K:Frag}
noncomputable def Mk (h:Heap)(L d:Addr):List (Addr×Obj):=(List.range h.objs.size).filterMap λa=>if a=L∨a=d then none else(h.get? a).map λo=>(a,o)
end
end Att
namespace L2
open PySem PySem.Spec PyProof.Rows
theorem Dy:∀{vs:List Value}{ns:List Int},IntsAre vs ns->Yl (ns.map V.int) vs:=λp=>by
 induction p with
 |nil=>exact .nil
 |cons n t _ ih=>exact .cons ⟨t,rfl⟩ ih
noncomputable def LQ (H:Hp):Prop:=∀ b,H b=none∨∃o xs,H b=some (.frz o (.lst xs))
theorem Bu {P:Program}{w:World}{K:PySem.W.Frag}{mg mb:Str->Option Value}{CX:CXT}{k:Nat}{fa a:Addr}{fd:FuncData}{x:Str}{sp:Sp}{s₁:Shared}{vs:List Value}{ns:List Int}
  (KX:K.In s₁.heap)(hns:s₁.heap.Ns mainGlobals mg)(hb:s₁.heap.Ns builtinsNs mb)(hbb:∀x:Str,x≠ "__name__" ->mb x=bootBuiltins x)(hlim:s₁.heap.NoLimit)(hg:s₁.gens= #[])
  (ha:s₁.heap.get? a=some {cls:=.type "list",data:=.seq vs.toArray})(hi:IntsAre vs ns)(hl:ns.length<=sizeLine)(hr:Room k callerA)
  (F:∀base:Heap,K.In base->base.Ns mainGlobals mg->FnOk P w K mg base CX k fa fd [x] sp)(hbind:∀(s:Shared) (u:Value),BindsTo s fd ⟨[u],[]⟩ [(x,u)])
  (hsp:∀H:Hp,LQ H->SqL K H a (ns.map V.int)->sp [.ref a] H (λv _=>v= .bl true) λ_ _ _=>False)
  (hCX:∀H e s',CX [] H s₁ (λ_ _ _=>False) e s'->False):
  codeAny (model P w) callerA (.call (.ref fa) ⟨[.ref a],[]⟩) (λr s'=>r= .ok (.ret (.bool true))/\OldK s₁.heap s'.heap/\s'.os=s₁.os/\AllBare s'.gens) s₁:=by
 have rv:=Dy hi
 have lenV:=hi.length
 -- from an abstract heap in which nothing but the script may be tracked
 have core:∀H:Hp,LQ H->SqL K H a (ns.map V.int)->HOk P w H s₁.heap->(∀b,H b≠none->b=a)->(H a≠none->K.lookup a=none)->
   codeAny (model P w) callerA (.call (.ref fa) ⟨[.ref a],[]⟩) (λr s'=>r= .ok (.ret (.bool true))/\OldK s₁.heap s'.heap/\s'.os=s₁.os/\AllBare s'.gens) s₁:=by
  intro H hO hS hok hA hK
  have base_of:∀{b:Addr}{o:Obj},s₁.heap.get? b=some o->H b=none->(CU s₁.heap H).get? b=some o:=λe n=>Gn e n
  have noA:∀{b:Addr}{o:Obj}{es:Array DictEntry}{ep:Nat},s₁.heap.get? b=some o->o.data= .dict es ep->H b=none:=fun {b o es ep} e d=>by
   cases q:H b with
   |none=>rfl
   |some u=>
    have e':b=a:=hA b (by rw[q];simp)
    subst e'
    rw[ha] at e;cases e
    have d':Data.seq vs.toArray _=Data.dict es ep:=d
    cases d'
  have nsK:∀{b:Addr}{m:Str->Option Value},s₁.heap.Ns b m->(CU s₁.heap H).Ns b m:=fun {b m} ⟨o,es,ep,e,d,r⟩=>⟨o,es,ep,base_of e (noA e d),d,r⟩
  have hKb:K.In (CU s₁.heap H):=λb o e=>base_of (KX b o e) (by
   cases q:H b with
   |none=>rfl
   |some u=>
    have e':b=a:=hA b (by rw[q];simp)
    subst e'
    rw[hK (by rw[q];simp)] at e;cases e)
  have hM:Mod K mg (CU s₁.heap H):=⟨hKb,nsK hns,⟨mb,nsK hb,hbb⟩,let ⟨mc,h1,h2⟩:=hlim;⟨mc,nsK h1,h2⟩⟩
  have e0:Env0 P w K mg (CU s₁.heap H) callerA [] s₁ H:=⟨rfl,hM,λb o e=>E8 e,Nat.le_of_eq (F4 _ _),trivial,λb hb=>absurd (show b∈([]:List Addr) from hb) (by simp),hok, .of_eq hg⟩
  refine codeAny_mono ((F _ hKb (nsK hns)).run callerA [] s₁ H ⟨[.ref a],[]⟩ [.ref a] [.ref a] _ _ hr e0 (hbind s₁ (.ref a)) (.cons rfl .nil) (hsp H hO hS)) λr s' h=>?_
  cases r with
  |error e=>exact(hCX H e s' h).elim
  |ok fl=>
   cases fl with
   |next=>exact False.elim h
   |brk=>exact False.elim h
   |cont=>exact False.elim h
   |ret u=>
    obtain⟨v,H',os,bare,un,hok',r',q⟩:=h
    have q':v= .bl true:=q
    subst q'
    obtain rfl:u=Value.bool true:=r'
    refine⟨rfl,OldK.of_keep λb o e=>?_,os,bare⟩
    cases q:H b with
    |none=>exact un.keep b o e q (by intro z;exact absurd (show b∈([]:List Addr) from z) (by simp)) (by simp)
    |some u=>
     rcases hO b with z | ⟨ob,xs,z⟩
     ·rw[q] at z;cases z
     ·have z2:=un.frzs b ob _ z
      obtain⟨e1,_⟩:=hok b _ z
      obtain⟨e2,_⟩:=hok' b _ z2
      rw[e] at e1;cases e1
      exact e2
 cases hk:K.lookup a with
 |some o=>
  -- the script is one of the module's own objects
  have e:=KX a o hk
  rw[ha] at e
  cases e
  refine core (λ_=>none) (λ_=>.inl rfl) (.inr ⟨_,vs.toArray,_,hk,rfl,rfl,rfl,by rw[List.size_toArray,lenV];exact hl,by simpa using rv⟩) (λb u z=>by have z':(none:Option HO)=some u:=z;cases z') (λb z=>absurd rfl z) λz=>absurd rfl z
 |none=>
  refine core (λb=>if b=a then some (.frz {cls:=.type "list",data:=.seq vs.toArray} (.lst (ns.map V.int))) else none) (λb=>?_) (.inl (.inr ⟨{cls:=.type "list",data:=.seq vs.toArray},if_pos rfl⟩)) (λb u z=>?_) (λb z=>?_) λ_=>hk
  ·by_cases hb:b=a
   ·exact .inr ⟨_,_,if_pos hb⟩
   ·exact .inl (if_neg hb)
  ·by_cases hb:b=a
   ·have z':=(if_pos hb).symm.trans z
    cases z'
    subst hb
    exact⟨ha,by rw[List.length_map];exact hl,vs,_,rv,ha⟩
   ·have z':=(if_neg hb).symm.trans z
    cases z'
  ·by_cases hb:b=a
   ·exact hb
   ·exact absurd (if_neg hb) z
theorem EK {l:PySem.W.OpenLaw}{n k:Nat}{q:Program}{loose:List Str}{XP:(Str->Option Value)->Heap->Prop}{YP:World->Heap->Prop}{d:DefRec}{K:Params->PySem.W.Frag}{CX:World->CXT}{sp:World->Sp}{x:Str}
  (hn:l.most=some n)(hn2:n<=sizeLine)(hdf:d.params.defaults=[])(hr:Room k callerA)
  (hY:∀(w:World) (h:Heap),YP w h->(K w.params).In h)
  (F:∀(w:World) (mg:Str->Option Value) (fa:Addr) (h:Heap),(K w.params).In h->h.Ns mainGlobals mg->mg d.name=some (.ref fa)->
   ∃fd:FuncData,(∀(s:Shared) (u:Value),BindsTo s fd ⟨[u],[]⟩ [(x,u)])/\
    ∀base:Heap,(K w.params).In base->base.Ns mainGlobals mg->FnOk l.prog w (K w.params) mg base (CX w) k fa fd [x] (sp w))
  (hsp:∀(w:World) (H:Hp) (a:Addr) (ns:List Int),ns.length<=n->LQ H->SqL (K w.params) H a (ns.map V.int)->sp w [.ref a] H (λv _=>v= .bl true) λ_ _ _=>False)
  (hCX:∀(w:World) (H:Hp) (s:Shared) (e:Value) (s':Shared),CX w [] H s (λ_ _ _=>False) e s'->False):
  PySem.W.WalkO q loose XP YP l.row.toRowW d [] (λf vs=>PySem.call f vs):=by
 refine Att.attach_call hn hdf λw s₀ s₁ mg mb fa o pm cd doc a vs ns G Y ho hd hcd hmg hobj hints hlen hg=>?_
 have KX:=hY w _ Y
 obtain⟨fd,hb,hF⟩:=F w mg fa _ KX G.T.g hmg
 exact Bu KX G.T.g G.T.b G.T.builtins G.T.nolimit hg hobj hints (Nat.le_trans hlen hn2) hr hF hb (λH hO hS=>hsp w H a ns hlen hO hS) λH e s'=>hCX w H s₁ e s'
noncomputable def Yy (s:Stmt):Arguments:=match s with
 | .FunctionDef _ a _ _ _ _ _ _ _ _=>a
 |_=>{posonlyargs:=[],args:=[],vararg:=none,kwonlyargs:=[],kw_defaults:=[],kwarg:=none,defaults:=[]}
noncomputable def Yo (s:Stmt):List Stmt:=match s with
 | .FunctionDef _ _ b _ _ _ _ _ _ _=>b
 |_=>[]
noncomputable def Xk (s:Stmt):Scope:=match s with
 | .FunctionDef _ _ _ _ _ _ sc _ _ _=>sc
 |_=>{kind:=.function,names:=[],isGenerator:=false,isCoroutine:=false}
noncomputable abbrev CX0:CXT:=λ_ _ _ _ _ _=>False
noncomputable abbrev E0:XK:=λ_ _ _=>False
theorem LV {X:Cx}:CM CX0 X E0:=λ_ _ _ _ _ _ _ h=>h.elim
structure Fun (K:PySem.W.Frag)(x qual:Str)(st:Stmt)(f:Addr)(fd:FuncData):Prop where
 ex:∃(oc:Value) (od:Option Addr) (kV doc pm:Value) (an:Option Addr) (cdv ct:Value) (osl:Array (Option Value)),
  fd=PySem.W.fnOf x qual (Yy st) (Yo st) (Xk st) .none kV doc pm an cdv ct/\K.lookup f=some ⟨oc,od, .func fd,osl⟩/\PySem.W.codeIn K cdv qual=true
 kp:PySem.W.keepIn K (.ref f)=true
section
variable {P:Program}{w:World}{K:PySem.W.Frag}{mg:Str->Option Value}{base:Heap}
theorem Fun.ok {x qual:Str}{st:Stmt}{f:Addr}{fd:FuncData}{N ps:List Str}{k:Nat}{sp:Sp}(F:Fun K x qual st f fd)(S:FnScope N ps (Xk st))(len:∀vs H Q E,sp vs H Q E->vs.length=ps.length)
  (hbody:∀(cdv:Value) (A:Around) (outer:List Env) (s:Shared) (H:Hp) (vs:List V) (Q:VK) (E:XK),Room k (A.deeper (envOfC qual (Xk st) s.heap.objs.size f cdv))->sp vs H Q E->
   ∃t,PSs (Es CX0 P w K mg base N qual (Xk st) f cdv A outer s H E).nox (Yo st) t/\t {nx:=λ_ H'=>Q .non H',rt:=Q} (start N vs) H):FnOk P w K mg base CX0 (k+1) f fd ps sp:=by
 obtain⟨oc,od,kV,doc,pm,an,cdv,ct,osl,rfl,lk,hcd⟩:=F.ex
 refine L7 lk hcd S len λA outer s H vs Q E hr hsp=>?_
 obtain⟨t,h,q⟩:=hbody cdv A outer s H vs Q E hr hsp
 exact⟨t,h.nox,q⟩
theorem Fun.binds {x qual:Str}{st:Stmt}{f:Addr}{fd:FuncData}{ps:List Str}(F:Fun K x qual st f fd)
  (h:∀(kV doc pm:Value) (an:Option Addr) (cdv ct:Value) (us:List Value),us.length=ps.length->bindArgs (PySem.W.fnOf x qual (Yy st) (Yo st) (Xk st) .none kV doc pm an cdv ct) ⟨us,[]⟩=pure (ps.zip us)):KZ K fd ps []:=by
 obtain⟨oc,od,kV,doc,pm,an,cdv,ct,osl,rfl,lk,hcd⟩:=F.ex
 exact .all (h kV doc pm an cdv ct)
theorem Qm {x qual:Str}{st:Stmt}{f:Addr}{oc:Value}{od an:Option Addr}{osl:Array (Option Value)}{kV doc pm cdv ct:Value}(l:K.lookup f=some ⟨oc,od, .func (PySem.W.fnOf x qual (Yy st) (Yo st) (Xk st) .none kV doc pm an cdv ct),osl⟩)
  (c:PySem.W.codeIn K cdv qual=true)(k:PySem.W.keepIn K (.ref f)=true):Fun K x qual st f (PySem.W.fnOf x qual (Yy st) (Yo st) (Xk st) .none kV doc pm an cdv ct):=⟨⟨oc,od,kV,doc,pm,an,cdv,ct,osl,rfl,l,c⟩,k⟩
end
theorem YX {A:Around}{k:Nat}(hr:Room k A):A.units+1<cLine:=Nat.lt_of_le_of_lt (Nat.add_le_add_left (by decide:1<=64) _) hr.units
section
variable {X:Cx}
theorem pv (i:Nat){x:Str}{pos:Pos}(hN:X.N[i]?=some x:=by rfl)(hv:Vis X.env.scope x:=by first |exact Or.inl rfl |exact Or.inr (Or.inl rfl) |exact Or.inr (Or.inr rfl))(hd:(x==("__debug__":Str))=false:=by decide)
  (hcd:(x==("__classdict__":Str))=false:=by decide):PE X (.Name x pos) (F5 i):=Ls hN hv hd hcd
end
noncomputable def Xr (H H':Hp):Prop:=∀ b o,H b=some o->H' b=some o
theorem Xr.refl (H:Hp):Xr H H:=λ_ _ h=>h
theorem Xr.trans {H H1 H2:Hp}(a:Xr H H1)(b:Xr H1 H2):Xr H H2:=λc o h=>b c o (a c o h)
theorem Xr.free {H H':Hp}(e:Xr H H'){l:Addr}(h:H' l=Option.none):H l=Option.none:=by
 cases q:H l with
 |none=>rfl
 |some o=>
  rw[e l o q] at h
  cases h
theorem Xr.seq {K:PySem.W.Frag}{H H':Hp}{a:Addr}{xs:List V}(e:Xr H H')(h:SqL K H a xs):SqL K H' a xs:=by
 rcases h with(h | ⟨o,h⟩) |h
 ·exact .inl (.inl (e _ _ h))
 ·exact .inl (.inr ⟨o,e _ _ h⟩)
 ·exact .inr h
section
variable {κ:Type}[DecidableEq κ]
noncomputable def KH (kvs:List (κ×V))(k:κ):Option V:=(kvs.find? λkv=>decide (kv.1=k)).map (·.2)
noncomputable def KC (kvs:List (κ×V))(k:κ)(v:V):List (κ×V):=
 if(kvs.any λkv=>decide (kv.1=k))=true then kvs.map (λkv=>if kv.1=k then(kv.1,v) else kv) else kvs++[(k,v)]
noncomputable def Iv (kvs:List (κ×V))(k:κ):List (κ×V):=kvs.filter λkv=>decide (kv.1≠k)
theorem JR {p:κ×V}{r:List (κ×V)}{k:κ}(e:p.1=k):KH (p::r) k=some p.2:=by simp[KH,List.find?_cons,e]
theorem JN {p:κ×V}{r:List (κ×V)}{k:κ}(e:¬p.1=k):KH (p::r) k=KH r k:=by simp[KH,List.find?_cons,e]
theorem GM (k:κ):∀kvs:List (κ×V),(kvs.any λkv=>decide (kv.1=k))=(KH kvs k).isSome
 | []=>rfl
 |p::r=>by
  rw[List.any_cons]
  by_cases e:p.1=k
  ·simp only[JR e,decide_eq_true e,Bool.true_or,Option.isSome_some]
  ·rw[JN e,decide_eq_false e,Bool.false_or];exact GM k r
theorem BQ.isSome_eq {o:Option V}{u:Option Value}(r:BQ o u):o.isSome=u.isSome:=by
 cases o with
 |none=>cases u with
  |none=>rfl
  |some _=>exact(show False from r).elim
 |some _=>cases u with
  |none=>exact(show False from r).elim
  |some _=>rfl
theorem BQ.getD {o:Option V}{u:Option Value}{d:V}{d':Value}(r:BQ o u)(rd:Yc d d'):Yc (o.getD d) (u.getD d'):=by
 cases o with
 |none=>cases u with
  |none=>exact rd
  |some _=>exact(show False from r).elim
 |some _=>cases u with
  |none=>exact(show False from r).elim
  |some _=>exact r
theorem KV.val {kvs:List (κ×V)}{vs:List (κ×Value)}(r:KV kvs vs)(k:κ):BQ (KH kvs k) (valueAt vs k):=by
 unfold KV at r
 induction r with
 |nil=>exact True.intro
 | @cons p q ps qs h t ih=>
  obtain⟨h1,h2⟩:=h
  by_cases e:p.1=k
  ·have e':q.1=k:=h1.symm.trans e
   have b:valueAt (q::qs) k=some q.2:=by simp[valueAt,List.find?_cons,e']
   rw[JR e,b];exact h2
  ·have e':¬q.1=k:=λz=>e (h1.trans z)
   have b:valueAt (q::qs) k=valueAt qs k:=by simp[valueAt,List.find?_cons,e']
   rw[JN e,b];exact ih
theorem KV.any {kvs:List (κ×V)}{vs:List (κ×Value)}(r:KV kvs vs)(k:κ):(kvs.any λkv=>decide (kv.1=k))=vs.any λkv=>decide (kv.1=k):=by
 unfold KV at r
 induction r with
 |nil=>rfl
 |cons h t ih=>rw[List.any_cons,List.any_cons,ih,h.1]
theorem KV.repl {kvs:List (κ×V)}{vs:List (κ×Value)}(r:KV kvs vs)(k:κ){y:V}{u:Value}(ry:Yc y u):
  KV (kvs.map λkv=>if kv.1=k then(kv.1,y) else kv) (vs.map λkv=>if kv.1=k then(kv.1,u) else kv):=by
 unfold KV at r⊢
 induction r with
 |nil=>exact .nil
 | @cons p q ps qs h t ih=>
  rw[List.map_cons,List.map_cons]
  refine .cons ?_ ih
  obtain⟨h1,h2⟩:=h
  by_cases e:p.1=k
  ·rw[if_pos e,if_pos (h1.symm.trans e)];exact⟨h1,ry⟩
  ·rw[if_neg e,if_neg (λz=>e (h1.trans z))];exact⟨h1,h2⟩
theorem KV.put {kvs:List (κ×V)}{vs:List (κ×Value)}(r:KV kvs vs)(k:κ){y:V}{u:Value}(ry:Yc y u):KV (KC kvs k y) (stored vs k u):=by
 unfold KC stored
 rw[r.any k]
 by_cases e:(vs.any λkv=>decide (kv.1=k))=true
 ·rw[if_pos e,if_pos e];exact r.repl k ry
 ·rw[if_neg e,if_neg e];exact Paired.snoc r ⟨rfl,ry⟩
theorem KV.drop {kvs:List (κ×V)}{vs:List (κ×Value)}(r:KV kvs vs)(k:κ):KV (Iv kvs k) (without vs k):=by
 unfold KV at r⊢
 unfold Iv without
 induction r with
 |nil=>exact .nil
 | @cons p q ps qs h t ih=>
  obtain⟨h1,h2⟩:=h
  rw[List.filter_cons,List.filter_cons]
  by_cases e:p.1=k
  ·have a:¬decide (p.1≠k)=true:=by simp[e]
   have b:¬decide (q.1≠k)=true:=by simp[h1.symm.trans e]
   rw[if_neg a,if_neg b];exact ih
  ·have e':¬q.1=k:=λz=>e (h1.trans z)
   have a:decide (p.1≠k)=true:=by simp[e]
   have b:decide (q.1≠k)=true:=by simp[e']
   rw[if_pos a,if_pos b];exact .cons ⟨h1,h2⟩ ih
theorem KV.keys {kvs:List (κ×V)}{vs:List (κ×Value)}(r:KV kvs vs):kvs.map (·.1)=vs.map (·.1):=by
 unfold KV at r
 induction r with
 |nil=>rfl
 |cons h t ih=>rw[List.map_cons,List.map_cons,ih,h.1]
theorem KV.length {kvs:List (κ×V)}{vs:List (κ×Value)}(r:KV kvs vs):kvs.length=vs.length:=Paired.length r
end
theorem Hm {P:Program}{w:World}{k:Key}{u:Value}(r:Yc (kV k) u):(X8 P w).is k u=true:=by
 cases k with
 |inl i=>obtain⟨t,e⟩:=(show ∃t,u=Value.int i t from r);subst e;exact KN P w i t
 |inr x=>obtain⟨t,e⟩:=(show ∃t,u=Value.str x t from r);subst e;exact KI P w x t
theorem Ki {P:Program}{w:World}:∀{ks:List Key}{us:List Value},Yl (ks.map kV) us->ItemsAre (X8 P w) ks us
 | [],_,r=>by rw[List.map_nil] at r;cases r;exact .nil
 |k::ks,_,r=>by
  rw[List.map_cons] at r
  cases r with
  |cons h t=>exact .cons (Hm h) (Ki t)
noncomputable abbrev KT (H:Hp):List (List Key×V)->List (List Key×Addr×Value)->Prop:=Paired λp q=>p.1=q.1/\H q.2.1=some (.tup (p.1.map kV))/\Yc p.2 q.2.2
theorem KT.val {H:Hp}{kvs:List (List Key×V)}{xs:List (List Key×Addr×Value)}(r:KT H kvs xs)(k:List Key):BQ (KH kvs k) ((atKey xs k).map (·.2)):=by
 induction r with
 |nil=>exact True.intro
 | @cons p q ps qs h t ih=>
  obtain⟨h1,_,h2⟩:=h
  by_cases e:p.1=k
  ·have e':q.1=k:=h1.symm.trans e
   have b:atKey (q::qs) k=some q.2:=by simp[atKey,List.find?_cons,e']
   rw[JR e,b];exact h2
  ·have e':¬q.1=k:=λz=>e (h1.trans z)
   have b:atKey (q::qs) k=atKey qs k:=by simp[atKey,List.find?_cons,e']
   rw[JN e,b];exact ih
theorem KT.repl {H:Hp}{kvs:List (List Key×V)}{xs:List (List Key×Addr×Value)}(r:KT H kvs xs)(k:List Key){y:V}{u:Value}(ry:Yc y u):
  KT H (kvs.map λkv=>if kv.1=k then(kv.1,y) else kv) (xs.map (putAt k u)):=by
 induction r with
 |nil=>exact .nil
 | @cons p q ps qs h t ih=>
  rw[List.map_cons,List.map_cons]
  refine .cons ?_ ih
  obtain⟨h1,h2,h3⟩:=h
  unfold putAt
  by_cases e:p.1=k
  ·rw[if_pos e,if_pos (h1.symm.trans e)];exact⟨h1,h2,ry⟩
  ·rw[if_neg e,if_neg (λz=>e (h1.trans z))];exact⟨h1,h2,h3⟩
theorem KT.put {H:Hp}{kvs:List (List Key×V)}{xs:List (List Key×Addr×Value)}(r:KT H kvs xs)(k:List Key){b:Addr}{y:V}{u:Value}(hb:H b=some (.tup (k.map kV)))(ry:Yc y u):
  KT H (KC kvs k y) (storedH xs k b u):=by
 have e:(kvs.any λkv=>decide (kv.1=k))=(atKey xs k).isSome:=by
  rw[GM,(r.val k).isSome_eq,Option.isSome_map]
 unfold KC storedH
 rw[e]
 by_cases q:(atKey xs k).isSome=true
 ·rw[if_pos q,if_pos q];exact r.repl k ry
 ·rw[if_neg q,if_neg q];exact Paired.snoc r ⟨rfl,hb,ry⟩
theorem KT.keeps {H H':Hp}{kvs:List (List Key×V)}{xs:List (List Key×Addr×Value)}(r:KT H kvs xs)(ht:∀b ys,H b=some (.tup ys)->H' b=some (.tup ys)):KT H' kvs xs:=
 Paired.mapP r λ_ _ z=>⟨z.1,ht _ _ z.2.1,z.2.2⟩
section
variable {P:Program}{w:World}{H:Hp}{h:Heap}{a:Addr}
theorem Lx {u:HO}(ok:HOk P w H h)(e:Rd H a u):YH P w H h a u:=e.ok ok
theorem LL {kvs:List (Key×V)}(ok:HOk P w H h)(e:Rd H a (.dK kvs)):kvs.length<=sizeLine/\(a==sysModules)=false/\∃vs,KV kvs vs/\h.DictOf (X8 P w) a vs:=
 show YH P w H h a (.dK kvs) from Lx ok e
theorem F3 {ks:List Key}(ok:HOk P w H h)(e:H a=some (.tup (ks.map kV))):(tupleKind (X8 P w)).is h ks a:=by
 obtain⟨_,its,r,o,h1,h2,n,h3⟩:=(show YH P w H h a (.tup (ks.map kV)) from ok a _ e)
 exact⟨o,its.toArray,n,h1,h2.1,h3,by simpa using Ki r⟩
theorem LP {kvs:List (List Key×V)}(ok:HOk P w H h)(e:Rd H a (.dT kvs)):kvs.length<=sizeLine/\(a==sysModules)=false/\
  ∃xs,KT H kvs xs/\h.DictOfH (tupleKind (X8 P w)) a xs:=by
 obtain⟨z,y,xs,r,o,es,ep,h1,h2,h3,h4,h5⟩:=(show YH P w H h a (.dT kvs) from Lx ok e)
 refine⟨z,y,xs,r,o,es,ep,h1,h2,h3,h4,λx hx=>?_,h5⟩
 have all:∀{l:List (List Key×V)}{m:List (List Key×Addr×Value)},KT H l m->∀x∈m,(tupleKind (X8 P w)).is h x.1 x.2.1:=by
  intro l m q
  induction q with
  |nil=>intro x hx;exact nomatch hx
  | @cons p q ps qs hq t ih=>
   intro x hx
   rcases List.mem_cons.mp hx with e |hx
   ·subst e
    exact F3 ok (by rw[←hq.1];exact hq.2.1)
   ·exact ih x hx
 exact all r x hx
end
noncomputable def HR (H:Hp)(a:Addr)(y:V)(r:Option V):Prop:=
 (∃kvs k,Rd H a (.dK kvs)/\y=kV k/\r=KH kvs k)∨∃kvs k b,Rd H a (.dT kvs)/\y= .ref b/\H b=some (.tup (k.map kV))/\r=KH kvs k
noncomputable def LB (H:Hp)(a:Addr)(y v:V)(H':Hp):Prop:=
 (∃kvs k,H a=some (.dK kvs)/\y=kV k/\kvs.length<sizeLine/\H'=upd H a (.dK (KC kvs k v)))∨
 ∃kvs k b,H a=some (.dT kvs)/\y= .ref b/\H b=some (.tup (k.map kV))/\kvs.length<sizeLine/\H'=upd H a (.dT (KC kvs k v))
theorem HR.k {H:Hp}{a:Addr}{kvs:List (Key×V)}{k:Key}(e:H a=some (.dK kvs)):HR H a (kV k) (KH kvs k):=.inl ⟨kvs,k, .inl e,rfl,rfl⟩
theorem HR.t {H:Hp}{a b:Addr}{kvs:List (List Key×V)}{k:List Key}(e:H a=some (.dT kvs))(eb:H b=some (.tup (k.map kV))):HR H a (.ref b) (KH kvs k):=.inr ⟨kvs,k,b, .inl e,rfl,eb,rfl⟩
theorem LB.k {H:Hp}{a:Addr}{kvs:List (Key×V)}{k:Key}{v:V}(e:H a=some (.dK kvs))(hl:kvs.length<sizeLine):LB H a (kV k) v (upd H a (.dK (KC kvs k v))):=.inl ⟨kvs,k,e,rfl,hl,rfl⟩
theorem LB.t {H:Hp}{a b:Addr}{kvs:List (List Key×V)}{k:List Key}{v:V}(e:H a=some (.dT kvs))(eb:H b=some (.tup (k.map kV)))(hl:kvs.length<sizeLine):
  LB H a (.ref b) v (upd H a (.dT (KC kvs k v))):=.inr ⟨kvs,k,b,e,rfl,eb,hl,rfl⟩
section
variable {X:Cx}{pins:List (Addr×Obj)}{σ:St}{H:Hp}{s:Shared}{a:Addr}{y v:V}{u r:Value}{o:Option V}{A:Around}{E:Value->Shared->Prop}
theorem Inv.big (I:Inv X pins σ H s):sysModules<s.heap.objs.size:=by
 have h:mainGlobals<s.heap.objs.size:=(I.mod.glob.keeps I.bk).lt
 exact Nat.lt_trans (by decide) h
theorem Hf {Q:Value->Shared->Prop}(hu:A.units+1<cLine)(I:Inv X pins σ H s)(g:HR H a y o)(ry:Yc y u)(h:∀s',Inv X pins σ H s'->Q (.bool (!o.isSome)) s'):
  wpAny (model X.prog X.w) A (compareOp .NotIn u (.ref a)) Q E s:=by
 rcases g with⟨kvs,k,e,ey,l⟩ | ⟨kvs,k,b,e,ey,eb,l⟩
 ·subst ey
  obtain⟨z,hd,vs,rel,dd⟩:=LL I.hok e
  refine wpAny_notIn_of (Hm ry) hd dd.mapOf ?_
  rw[←(rel.val k).isSome_eq, ←l]
  exact h _ (I.tok _)
 ·subst ey
  cases(show u=Value.ref b from ry)
  obtain⟨z,hd,xs,rel,dd⟩:=LP I.hok e
  refine wpAny_notIn_heap (tupleKind_room_in1 hu) (F3 I.hok eb) hd dd ?_
  have q:=(rel.val k).isSome_eq
  rw[Option.isSome_map] at q
  rw[←q, ←l]
  exact h _ (I.tok _)
end
section
variable {X:Cx}{pins:List (Addr×Obj)}{σ:St}{H:Hp}{s:Shared}{a:Addr}{kvs:List (Key×V)}{k:Key}{u:Value}{A:Around}{E:Value->Shared->Prop}
end
noncomputable def FX (ty td:TE):TE:=λσ H Q=>ty σ H λy H1=>td σ H1 λx H2=>∃ a o,x= .ref a/\HR H2 a y o/\Q (.bl (!o.isSome)) H2
section
variable {X:Cx}{o i e value:Expr}{pos pos' tpos:Pos}{td ty tv:TE}
theorem Ck (hu:X.A.units+1<cLine)(hi:PE X i ty)(ho:PE X o td):PC X .NotIn i o (FX ty td):=by
 intro pins s σ H Q I h
 refine thn (hi pins s σ H _ I h) λiv s1 ⟨y,H1,I1,ry,q1⟩=>thn (ho pins s1 σ H1 _ I1 q1) λu s2 r9=>?_
 obtain⟨x,H2,I2,rx,a,ov,ex,g,q2⟩:=r9
 subst ex
 obtain rfl:u=Value.ref a:=rx
 exact Hf hu I2 g ry λs3 I3=>⟨.bl (!ov.isSome),H2,I3,rfl,q2⟩
end
section
variable {X:Cx}{pos:Pos}
end
section
variable {X:Cx}{pins:List (Addr×Obj)}{σ:St}{H:Hp}{s:Shared}{a:Addr}{y d:V}{u r:Value}{o:Option V}{A:Around}{E:Value->Shared->Prop}
end
section
variable {X:Cx}{o e f:Expr}{apos cpos:Pos}{td ty tx:TE}
end
section
variable {X:Cx}{pins:List (Addr×Obj)}{σ:St}{H:Hp}{s:Shared}{a:Addr}{kvs:List (Key×V)}{A:Around}{E:Value->Shared->Prop}
end
section
variable {X:Cx}{pins:List (Addr×Obj)}{σ:St}{H:Hp}{s:Shared}{a:Addr}{y:V}{u:Value}{A:Around}{E:Value->Shared->Prop}
end
section
variable {X:Cx}
end
section
variable {κ:Type}[DecidableEq κ]
end
theorem Dq {env:Env}:∀(names:List (Str×NameKind)),(∀x∈names,x.2=NameKind.free->∃c,env.cells.lookup x.1=some c)->
  ∀cs:List (Str×Addr),(∀x c,cs.lookup x=some c->env.cells.lookup x=some c)->
  ∃cl:List (Str×Addr),(forIn names cs (λ(x:Str×NameKind) (r:List (Str×Addr))=>(if(x.2==NameKind.free)=true then do let a ←cellOf env x.1;pure (ForInStep.yield ((x.1,a)::r)) else pure (ForInStep.yield r):Sem (ForInStep (List (Str×Addr))))))=(pure cl:Sem (List (Str×Addr)))/\
   (∀x c,cl.lookup x=some c->env.cells.lookup x=some c)/\(∀x,((x,NameKind.free)∈names∨∃c,cs.lookup x=some c)->∃c,cl.lookup x=some c)
 | [],_,cs,hs=>⟨cs,by rw[List.forIn_nil],hs,λx h=>h.elim (λz=>nomatch z) id⟩
 | (n,k)::r,hf,cs,hs=>by
  have hr:∀x∈r,x.2=NameKind.free->∃c,env.cells.lookup x.1=some c:=λx hx=>hf x (List.mem_cons_of_mem _ hx)
  by_cases hk:k=NameKind.free
  ·subst hk
   obtain⟨a,ha⟩:=hf (n,NameKind.free) List.mem_cons_self rfl
   have hs':∀x c,((n,a)::cs).lookup x=some c->env.cells.lookup x=some c:=λx c h=>by
    rw[List.lookup_cons] at h
    by_cases hx:x=n
    ·subst hx
     simp only[beq_self_eq_true] at h
     rw[←h];exact ha
    ·have:(x==n)=false:=beq_eq_false_iff_ne.mpr hx
     rw[this] at h
     exact hs x c h
   obtain⟨cl,e,h1,h2⟩:=Dq r hr ((n,a)::cs) hs'
   refine⟨cl,?_,h1,λx h=>h2 x ?_⟩
   ·rw[List.forIn_cons]
    have e1:cellOf env n=pure a:=by unfold cellOf;rw[show env.cells.lookup n=some a from ha]
    simp only[beq_self_eq_true,if_true,e1]
    exact e
   ·rcases h with h | ⟨c,h⟩
    ·rcases List.mem_cons.mp h with h |h
     ·have:x=n:=congrArg Prod.fst h
      subst this
      exact .inr ⟨a,by rw[List.lookup_cons];simp⟩
     ·exact .inl h
    ·by_cases hx:x=n
     ·subst hx;exact .inr ⟨a,by rw[List.lookup_cons];simp⟩
     ·exact .inr ⟨c,by rw[List.lookup_cons,beq_eq_false_iff_ne.mpr hx];exact h⟩
  ·obtain⟨cl,e,h1,h2⟩:=Dq r hr cs hs
   refine⟨cl,?_,h1,λx h=>h2 x ?_⟩
   ·rw[List.forIn_cons]
    have hb:(k==NameKind.free)=false:=by simpa using hk
    simp only[hb,Bool.false_eq_true,if_false]
    exact e
   ·rcases h with h |h
    ·rcases List.mem_cons.mp h with h |h
     ·exact absurd (congrArg Prod.snd h).symm hk
     ·exact .inl h
    ·exact .inr h
theorem Fk {scope:Scope}{env:Env}(hf:∀x∈scope.names,x.2=NameKind.free->∃c,env.cells.lookup x.1=some c):
  ∃cl:List (Str×Addr),closureFor scope env=pure cl/\(∀x c,cl.lookup x=some c->env.cells.lookup x=some c)/\(∀x,(x,NameKind.free)∈scope.names->∃c,cl.lookup x=some c):=by
 obtain⟨cl,e,h1,h2⟩:=Dq scope.names hf [] (λx c h=>by simp at h)
 refine⟨cl,?_,h1,λx h=>h2 x (.inl h)⟩
 unfold closureFor
 show((forIn scope.names [] (λ(x:Str×NameKind) (r:List (Str×Addr))=>(if(x.2==NameKind.free)=true then do let a ←cellOf env x.1;pure (ForInStep.yield ((x.1,a)::r)) else pure (ForInStep.yield r):Sem (ForInStep (List (Str×Addr)))))) >>= λs=>pure s)=pure cl
 rw[e]
 rfl
theorem QJ {env:Env}:∀{names:List (Str×NameKind)}{x:Str}{k:NameKind},(∀y∈names,y.2≠NameKind.cell)->
  (names.map λ(n,k)=>if(k==NameKind.free&&env.scope.kind== .function&&env.kindOf n==some .cell) then(n,NameKind.cell) else(n,k)).lookup x=some k->(k= .cell∨k= .free)->(x,NameKind.free)∈names
 | [],_,_,_,h,_=>by simp at h
 | (n,kk)::r,x,k,hc,h,hk=>by
  have ih:=@QJ env r x k (λy hy=>hc y (List.mem_cons_of_mem _ hy))
  have hh:=hc (n,kk) List.mem_cons_self
  simp only[List.map_cons] at h
  by_cases hcond:(kk==NameKind.free&&env.scope.kind== .function&&env.kindOf n==some .cell)=true
  ·rw[if_pos hcond,List.lookup_cons] at h
   have hfree:kk=NameKind.free:=by
    rw[Bool.and_eq_true,Bool.and_eq_true] at hcond
    simpa using hcond.1.1
   cases hx:x==n with
   |true=>
    have:x=n:=by simpa using hx
    subst this;subst hfree
    exact List.mem_cons_self
   |false=>rw[hx] at h;exact List.mem_cons_of_mem _ (ih h hk)
  ·rw[if_neg hcond,List.lookup_cons] at h
   cases hx:x==n with
   |true=>
    rw[hx] at h
    have hkk:kk=k:=Option.some.inj h
    have:x=n:=by simpa using hx
    subst this;subst hkk
    rcases hk with z |z
    ·exact absurd z hh
    ·subst z;exact List.mem_cons_self
   |false=>rw[hx] at h;exact List.mem_cons_of_mem _ (ih h hk)
theorem Jz {env:Env}:∀{names:List (Str×NameKind)}{x:Str},names.lookup x=some .free->
  let l:=(names.map λ(n,k)=>if(k==NameKind.free&&env.scope.kind== .function&&env.kindOf n==some .cell) then(n,NameKind.cell) else(n,k))
  l.lookup x=some .cell∨l.lookup x=some .free
 | [],_,h=>by simp at h
 | (n,kk)::r,x,h=>by
  have ih:=@Jz env r x
  simp only[List.map_cons]
  rw[List.lookup_cons] at h
  by_cases hcond:(kk==NameKind.free&&env.scope.kind== .function&&env.kindOf n==some .cell)=true
  ·rw[if_pos hcond,List.lookup_cons]
   cases hx:x==n with
   |true=>exact .inl rfl
   |false=>rw[hx] at h;exact ih h
  ·rw[if_neg hcond,List.lookup_cons]
   cases hx:x==n with
   |true=>rw[hx] at h;exact .inr h
   |false=>rw[hx] at h;exact ih h
noncomputable abbrev Cx.comp (X:Cx)(N:List Str)(scope:Scope)(cl:List (Str×Addr))(C:Addr)(s:Shared)(H:Hp)(ex:List Addr)(E:Value->Shared->Prop):Cx:=
 {X with N:=N,s₀:=s,H₀:=H,env:=compEnvC scope cl C X.env,outer:=X.stack,ex:=ex,fn:=λ_=>false,pn:=[],xe:=E}
noncomputable def PTs (X:Cx)(ifs:List Expr)(t:TT):Prop:=
 ∀(pins:List (Addr×Obj)) (s:Shared) (σ:St) (H:Hp) (Q:Bool->Hp->Prop),Inv X pins σ H s->t σ H Q->
  wpAny (model X.prog X.w) X.A (forIn ifs true λc r=>if r=true then do let ok ←isTrue c X.env (eval c X.env);pure (ForInStep.yield ok) else pure (ForInStep.yield r)) (TP X pins σ Q) X.xe s
noncomputable def Uu:TT:=λ_ H Q=>Q true H
theorem Ij {σ:St}{H:Hp}{A B:Hp->Prop}(h:A H):Uu σ H λc H5=>if c=true then A H5 else B H5:=by
 show if true=true then A H else B H
 rw[if_pos rfl]
 exact h
theorem ZG {X:Cx}:PTs X [] Uu:=λ_ _ _ H _ I h=>wpAny_tests_nil ⟨H,I,h⟩
theorem KA {X:Cx}{c:Expr}{t:TT}(h:PT X c t):PTs X [c] t:=λpins s σ H Q I hw=>wpAny_tests_one (h pins s σ H Q I hw)
noncomputable def Uv (n:Nat)(g:TG):Prop:=∀ x σ H Q,g x σ H Q->g x σ H λσ2 H2=>Q σ2 H2/\σ2.length=σ.length/\∀i,n<=i->σ2[i]?=σ[i]?
theorem ZY {n i:Nat}(h:i<n):Uv n (YU i):=λx σ H Q q=>⟨q,by simp,λj hj=>by rw[List.getElem?_set_ne (by lia)]⟩
theorem V4 {K:PySem.W.Frag}{n i j:Nat}(hi:i<n)(hj:j<n):Uv n (Bc K 2 (Zq (YU i) (Zq (YU j) B6))):=λx σ H Q q=>by
 obtain⟨a,xs,e1,hq,hl,v,r,e2,w,r2,e3,e4,q⟩:=q
 exact⟨a,xs,e1,hq,hl,v,r,e2,w,r2,e3,e4,q,by simp,λk hk=>by rw[List.getElem?_set_ne (by lia),List.getElem?_set_ne (by lia)]⟩
noncomputable def Q3 (n:Nat)(caps:List (Nat×Str))(σ:St):St:=List.replicate n none++caps.map λp=>(σ[p.1]?).join
noncomputable def Ht (g:TG)(tt:TT)(te:TE)(σ:St)(Q:VK)(J:It)(W:Nat->Nat->List V->Hp->Prop):Prop:=
 ∀i m ys H2,W i m ys H2->ys.length<=sizeLine/\
  ((J.stop i H2/\∀p,H2 p=none->Q (.ref p) (upd H2 p (.lst ys)))∨
  (J.go i H2/\∃N:List V->Hp->Prop,(∀ys' H',N ys' H'->∃m',m'<m/\W (i+1) m' ys' H')/\∀x H3,J.yld i H2 x H3->g x σ H3 λσ4 H4=>tt σ4 H4 λc H5=>
   if c=true then te σ4 H5 λv H6=>N (ys++[v]) H6 else N ys H5))
noncomputable def B5 (n:Nat)(caps:List (Nat×Str))(g:TG)(tt:TT)(te:TE)(σ:St)(Q:VK)(J:It)(H1:Hp):Prop:=
 ∃W:Nat->Nat->List V->Hp->Prop,(∃m,W 0 m [] H1)/\Ht g tt te (Q3 n caps σ) Q J W
noncomputable def CK (n:Nat)(caps:List (Nat×Str))(wi:TI)(g:TG)(tt:TT)(te:TE):TE:=λσ H Q=>wi σ H λJ H1=>B5 n caps g tt te σ Q J H1
noncomputable def UU (sc scope:Scope)(N0 tns:List Str)(caps:List (Nat×Str)):Bool:=
 scope.kind== .function&&scope.names.all (λy=>!(y.2== .cell))&&scope.names.all (λy=>!(y.2== .local) || scope.names.lookup y.1==some .local)&&
 scope.names.all (λy=>!(y.2== .free) || sc.names.lookup y.1==some .cell)&&caps.all (λp=>N0[p.1]?==some p.2&&sc.names.lookup p.2==some .cell&&scope.names.lookup p.2==some .free)
theorem Gk {α:Type}{p:α}{P:Prop}(h:p∈([]:List α)):P:=nomatch h
noncomputable def IB (M:Model)(A:Around)(elt tg:Expr)(ifs:List Expr)(acc:Value)(env:Env)(E:Value->Shared->Prop)(K:Shared->Prop)(v:Value)(s:Shared):Prop:=
 wpAny M A (assign tg env v) (λ_ s₂=>wpAny M A (forIn ifs true λc r=>if r=true then do let ok ←isTrue c env (eval c env);pure (ForInStep.yield ok) else pure (ForInStep.yield r)) (λok s₃=>
  if ok=true then wpAny M A (eval elt env) (λx s₄=>wpAny M A (call (.builtin "list.append") [acc,x]) (λ_ s₅=>K s₅) E s₄) E s₃ else K s₃) E s₂) E s
noncomputable def LM (M:Model)(A:Around)(elt tg:Expr)(ifs:List Expr)(it acc:Value)(env:Env)(E:Value->Shared->Prop)(Rn K:Shared->Prop)(s:Shared):Prop:=
 wpAny M A (pyNext it) (λr s₁=>r=none/\Rn s₁∨∃v,r=some v/\wpAny M A (letOwnedTupleGo tg it v) (λ_ s₁=>IB M A elt tg ifs acc env E K v s₁) E s₁) E s
section
variable {prog:Program}{w:World}{A:Around}{R:Result->Shared->Prop}{s:Shared}
theorem U8 {elt target iter:Expr}{ifs:List Expr}{scope:Scope}{pos:Pos}{it acc:Value}{env:Env}{E:Value->Shared->Prop}(I:Nat->Shared->Prop)(hE:(notedBy (model prog w) A env λe s'=>R (.error e) s')=E)
  (turn:∀n s,I n s->LM (model prog w) A elt target ifs it acc env E (λs=>R (.ok .next) s) (λs=>∃ m,m<n/\I m s) s)(n:Nat)(h:I n s):
  codeAny (model prog w) A (.compLoop (.ListComp elt [⟨target,iter,ifs,0⟩] scope pos) 0 it acc env) R s:=by
 subst hE
 refine codeAny_loop rfl I (λn s hI=>?_) n h
 show wpAny _ A ((compTurn (.ListComp elt [⟨target,iter,ifs,0⟩] scope pos) 0 it acc env).onRaise (λx=>do noteFrame x env;theTreesLotGoes x)) _ _ s
 refine wpAny_noted ?_
 rw[compTurn_list]
 refine wpAny_bind (wpAny_standAt (wpAny_bind (thn (turn n s hI) λr s₁ h₁=>?_)))
 rcases h₁ with⟨rfl,h₁⟩ | ⟨v,rfl,h₁⟩
 ·exact wpAny_pure h₁
 ·refine wpAny_bind (thn h₁ λ_ s₁' h₁'=>wpAny_bind (thn h₁' λ_ s₂ h₂=>wpAny_bind (thn h₂ λok s₃ h₃=>?_)))
  cases ok with
  |false=>exact wpAny_pure ⟨rfl,h₃⟩
  |true=>exact wpAny_bind (wpAny_bind (thn h₃ λx s₄ h₄=>wpAny_bind (thn h₄ λ_ s₅ h₅=>wpAny_pure (wpAny_pure ⟨rfl,h₅⟩))))
end
noncomputable def lob (its:List Value)(k:Nat):Obj:={cls:=.type "list",data:=.seq (List.toArray its) k}
structure CIn (Y:Cx)(tn:Nat->Heap->Prop)(fp:List Addr)(D:Addr)(σ:St)(i:Nat)(H:Hp)(o:Obj)(s:Shared):Prop where
 I:Inv Y [] σ H s
 t:tn i s.heap
 f:∀b∈fp,H b=none
 l:s.heap.get? D=some o
 n:H D=none
inductive CI (Y:Cx)(tn:Nat->Heap->Prop)(fp:List Addr)(D:Addr)(σ:St)(W:Nat->Nat->List V->Hp->Prop)(m:Nat)(s:Shared):Prop
 |mk (i:Nat) (H:Hp) (ys:List V) (its:List Value) (k:Nat) (c:CIn Y tn fp D σ i H (lob its k) s) (r:Yl ys its) (w:W i m ys H)
structure CAt (Y:Cx)(fp:List Addr)(D:Addr):Prop where
 calm:Y.calm=true
 pn:Y.pn=[]
 ne:D≠Y.env.locals
 fs:D∉Y.fs
 sz:Y.s₀.heap.objs.size<=D
 cl:∀x c,Y.env.cells.lookup x=some c->c≠D
 fpn:∀b∈fp,b≠D
 ok:∀b∈fp,∀H:Hp,H b=none->Ga Y [] H b
section
variable {Y:Cx}{tn:Nat->Heap->Prop}{fp:List Addr}{D it:Addr}{σ:St}{tg elt iter:Expr}{ifs:List Expr}{J:It}{g:TG}{tt:TT}{te:TE}{n i:Nat}{H:Hp}{s:Shared}{o:Obj}{Kn:Shared->Prop}
theorem CAt.pins (c:CAt Y fp D)(hn:∀b∈fp,H b=none):∀b∈fp,Ga Y [(D,o)] H b:=λb hb=>
 have z:=c.ok b hb H (hn b hb)
 ⟨z.1,z.2.1,z.2.2.1,z.2.2.2.1,z.2.2.2.2.1,λp hp e=>by
  rw[c.pn] at hp
  cases List.mem_singleton.mp hp
  exact c.fpn b hb e.symm⟩
theorem GE (T:Turn Y.prog Y.w Y.K tg J fp it tn){h5:Heap}(t:tn i h5)(I:Inv Y ([(D,o)]++UN fp h5) σ H s):CIn Y tn fp D σ i H o s:=
 have p:=I.pin (D,o) (List.mem_append_right _ (.head _))
 have q:∀b∈fp,∀o',h5.get? b=some o'->s.heap.get? b=some o'/\H b=none:=λb hb o' e=>have z:=I.pin (b,o') (List.mem_append_right _ (.tail _ (Ja hb e)));⟨z.1,z.2.1⟩
 ⟨I.pins_of (pins':=[]) λ_ h=>Gk h,T.keep _ _ _ t λb hb o' e=>(q b hb o' e).1,λb hb=>(T.obj _ _ t b hb).elim λo' e=>(q b hb o' e.1).2,p.1,p.2.1⟩
theorem ME (T:Turn Y.prog Y.w Y.K tg J fp it tn)(a:CAt Y fp D){its:List Value}{k:Nat}{v:Value}{E:Value->Shared->Prop}(c:CIn Y tn fp D σ i H (lob its k) s)(hz:its.length<=sizeLine)
  (hQ:∀k' s',CIn Y tn fp D σ i H (lob (its++[v]) k') s'->Kn s'):wpAny (model Y.prog Y.w) Y.A (call (.builtin "list.append") [.ref D,v]) (λ_ s=>Kn s) E s:=by
 refine call_meets F.slot_list_append ⟨_,c.l,rfl⟩ F.entry_list_append (F.args_list_append_2 _ _) (PySem.list_append D (List.toArray its) k v hz) ⟨c.l,?_⟩
 have q:∃k',PySem.IsL (s.heap.update D (Obj.mapSeq (·.push v))) D ((List.toArray its).push v) k':=⟨_,PySem.IsL.update c.l (·.push v)⟩
 rw[List.push_toArray] at q
 obtain⟨k',q⟩:=q
 exact hQ k' _ ⟨c.I.turned (t':=s.toks) (h':=s.heap.update D (Obj.mapSeq (·.push v))) (it:=D) (λb o hb' e=>(Heap.get?_update_other s.heap _ (Ne.symm hb')).trans e) c.n a.ne (.inr a.sz) a.cl (λp hp=>by rw[a.pn] at hp;exact Gk hp),
  T.keep _ _ _ c.t λb hb o e=>(Heap.get?_update_other s.heap _ (Ne.symm (a.fpn b hb))).trans e,c.f,q,c.n⟩
theorem CW {acc:Value}{pins:List (Addr×Obj)}{N:List V->Hp->Prop}{ys:List V}{x:V}{u:Value}(hg:PG Y tg g)(ht:PTs Y ifs tt)(he:PE Y elt te)(hG:Uv n g)(h0:∀(j:Nat) v,σ[j]?=some (some v)->n<=j)
  (I:Inv Y pins σ H s)(r:Yc x u)(st:g x σ H λσ4 H4=>tt σ4 H4 λc H5=>if c=true then te σ4 H5 λv H6=>N (ys++[v]) H6 else N ys H5)
  (hF:∀H7 s7,Inv Y pins σ H7 s7->N ys H7->Kn s7)(hT:∀H8 s8 y v,Inv Y pins σ H8 s8->Yc y v->N (ys++[y]) H8->wpAny (model Y.prog Y.w) Y.A (call (.builtin "list.append") [acc,v]) (λ_ s=>Kn s) Y.xe s8):
  IB (model Y.prog Y.w) Y.A elt tg ifs acc Y.env Y.xe Kn u s:=by
 refine thn (hg _ s _ H x u _ I r (hG _ _ _ _ st)) λ_ s6 r9=>?_
 obtain⟨σ6,H6,I6,q6,l6,k6⟩:=r9
 have wk:∀(j:Nat) v,σ[j]?=some (some v)->σ6[j]?=some (some v):=λj v e=>(k6 j (h0 j v e)).trans e
 refine thn (ht _ s6 σ6 H6 _ I6 q6) λc s7 r9=>?_
 obtain⟨H7,I7,q7⟩:=r9
 cases c with
 |false=>exact hF _ _ (I7.weak l6.symm wk) q7
 |true=>exact thn (he _ s7 σ6 H7 _ I7 q7) λv8 s8 r9=>by obtain⟨y8,H8,I8,r8,n8⟩:=r9;exact hT _ _ _ _ (I8.weak l6.symm wk) r8 n8
theorem GX {scope:Scope}{pos:Pos}{Q:V->Hp->Prop}{R:Result->Shared->Prop}(hE:(notedBy (model Y.prog Y.w) Y.A Y.env λe s'=>R (.error e) s')=Y.xe)
  (T:Turn Y.prog Y.w Y.K tg J fp it tn)(hG:Uv n g)(hg:PG Y tg g)(ht:PTs Y ifs tt)(he:PE Y elt te)(a:CAt Y fp D)(h0:∀(j:Nat) v,σ[j]?=some (some v)->n<=j)
  {W:Nat->Nat->List V->Hp->Prop}(turn:Ht g tt te σ Q J W)
  (hEnd:∀ys its k H3 s4,Inv Y [(D,lob its k)] σ H3 s4->Yl ys its->ys.length<=sizeLine->Q (.ref D) (upd H3 D (.lst ys))->R (.ok .next) s4){m0:Nat}(hi:CI Y tn fp D σ W m0 s):
  codeAny (model Y.prog Y.w) Y.A (.compLoop (.ListComp elt [⟨tg,iter,ifs,0⟩] scope pos) 0 (.ref it) (.ref D) Y.env) R s:=by
 refine U8 (CI Y tn fp D σ W) hE (λm s3 c=>?_) m0 hi
 cases c with
 |mk i H3 ys its k c rv w3=>
 have I3:Inv Y [(D,lob its k)] σ H3 s3:=c.I.pins_of λp hp=>List.mem_singleton.mp hp▸⟨c.l,c.n,a.ne,a.fs,λ_ z=>by cases z⟩
 have t:=turn i m ys H3 w3
 refine t.2.elim (λq=>?_) λq=>?_
 ·exact thn (T.done Y rfl rfl rfl a.calm i _ s3 _ H3 Y.xe I3 (a.pins c.f) c.t q.1) λr s4 h=>.inl ⟨h.1,hEnd ys its k H3 s4 h.2 rv t.1 (q.2 D c.n)⟩
 ·refine q.2.elim λNN h=>?_
  refine thn (T.item Y rfl rfl rfl a.calm i _ s3 _ H3 Y.xe I3 (a.pins c.f) c.t q.1) λr s4 h4=>.inr (h4.elim λu h4=>⟨u,h4.1,thn h4.2 λ_ s5 h5=>h5.elim λx h5=>h5.elim λH5 h5=>?_⟩)
  exact CW hg ht he hG h0 (h5.1.pinned (a.pins h5.2.2.2.2) (T.obj _ _ h5.2.2.2.1)) h5.2.1 (h.2 x H5 h5.2.2.1)
   (λH7 s7 I7 q7=>(h.1 _ _ q7).elim λm' z=>⟨m',z.1, .mk (i+1) H7 ys its k (GE T h5.2.2.2.1 I7) rv z.2⟩)
   λH8 s8 y v I8 r8 q8=>(h.1 _ _ q8).elim λm' z=>ME T a (GE T h5.2.2.2.1 I8) (rv.length▸t.1) λk' s' c'=>⟨m',z.1, .mk (i+1) H8 (ys++[y]) (its++[v]) k' c' (rv.append (.cons r8 .nil)) z.2⟩
end
section
variable {X:Cx}{elt tg iter:Expr}{ifs:List Expr}{scope sc:Scope}{pos:Pos}{n:Nat}{tns:List Str}{caps:List (Nat×Str)}{wi:TI}{g:TG}{tt:TT}{te:TE}
structure CompEnd (X:Cx)(pins:List (Addr×Obj))(σ:St)(H3:Hp)(D C:Addr)(ys:List V)(s':Shared):Prop where
 inv:Inv X pins σ (upd H3 D (.lst ys)) s'
 fresh:H3 D=none
 fp:Ga X pins (upd H3 D (.lst ys)) C
 ns:∃m,s'.heap.Ns C m
theorem C8 {pins:List (Addr×Obj)}{σ σ':St}{H H3:Hp}{s s4:Shared}{D C:Addr}{fp:List Addr}{its:List Value}{k:Nat}{ys:List V}{Y:Cx}(I:Inv X pins σ H s)(hf:∀b∈fp,Ga X pins H b)(hD:s.heap.objs.size<=D)(hDlt:D<C)
  (I4:Inv Y [(D,lob its k)] σ' H3 s4)(hos:s4.os=s.os)(u:Un (frs X.stack) fp H H3 s.heap s4.heap)(hok:HOk X.prog X.w H3 s4.heap)(hC:Y.env.locals=C)(rv:Yl ys its)(hz:ys.length<=sizeLine):CompEnd X pins σ H3 D C ys s4:=by
 subst hC
 have p:=I4.pin (D,lob its k) (List.mem_append_right _ (.head _))
 have hDn:H3 D=none:=p.2.1
 have up:∀{b:Addr}{o:HO},H3 b=some o->upd H3 D (.lst ys) b=some o:=λe=>(Xs (XR e hDn)).trans e
 refine⟨I.call' (ch:=fp) hos ⟨u.keep,u.slot,λb o e nn hx=>(Xs (Nat.ne_of_lt (Nat.lt_of_lt_of_le (Heap.lt_size e) hD))).trans (u.free b o e nn hx),u.there,λb xs e=>up (u.tups b xs e),λb o xs e=>up (u.frzs b o xs e),λb ps e=>(u.tbls b ps e).elim λmore z=>⟨more,up z⟩⟩ (λa o e=>?_) I4.bare λb hb=>have z:=hf b hb;⟨z.2.2.2.1,z.2.1,z.2.2.2.2.1,z.2.2.2.2.2⟩,hDn,I.fpOk (Nat.le_trans hD (Nat.le_of_lt hDlt)) ((Xs (Nat.ne_of_gt hDlt)).trans I4.free),I4.loc.elim λm z=>⟨m,z.1⟩⟩
 by_cases ha:a=D
 ·subst ha
  rw[Yr] at e;cases e
  exact⟨hz,its,k,rv,p.1⟩
 ·rw[Xs ha] at e
  exact(hok a o e).stay (λb u _ q=>q) (λb q=>up q) λb xs q=>up q
noncomputable def MC (X:Cx)(elt tg iter:Expr)(ifs:List Expr)(scope:Scope)(pos:Pos)(it:Value)(cl:List (Str×Addr))(RR:Value->Addr->Result->Shared->Prop)(E:Value->Shared->Prop)(s:Shared):Prop:=
 wpAny (model X.prog X.w) X.A (newList []) (λacc s₃=>wpAny (model X.prog X.w) X.A (newFunctionEnv scope X.env.globals cl [] X.env.qual none .none (some X.env)) (λcenv s₄=>
   codeAny (model X.prog X.w) X.A (.compStart (.ListComp elt [⟨tg,iter,ifs,0⟩] scope pos) 0 it acc {cenv with scope:=relabel scope X.env}) (RR acc cenv.locals) s₄) E s₃) E s
theorem Kb {σ:St}{i:Nat}{v:V}(e:(Q3 n caps σ)[i]?=some (some v)):n<=i/\∃p,caps[i-n]?=some p/\σ[p.1]?=some (some v):=by
 unfold Q3 at e
 by_cases h:i<n
 ·rw[List.getElem?_append_left (by simpa using h),List.getElem?_replicate,if_pos h] at e
  cases e
 ·have hi:=Nat.le_of_not_lt h
  rw[List.getElem?_append_right (by simpa using hi),List.length_replicate,List.getElem?_map] at e
  refine⟨hi,?_⟩
  cases hcp:caps[i-n]? with
  |none=>rw[hcp] at e;cases e
  |some p=>
   rw[hcp] at e
   exact⟨p,rfl,Option.join_eq_some_iff.mp (Option.some.inj e)⟩
structure COk (X:Cx)(scope:Scope)(caps:List (Nat×Str)):Prop where
 kind:scope.kind= .function
 cell:∀y∈scope.names,y.2≠NameKind.cell
 loc:∀y∈scope.names,y.2= .local->scope.names.lookup y.1=some .local
 free:∀y∈scope.names,y.2= .free->X.env.scope.names.lookup y.1=some .cell
 caps:∀p∈caps,(X.N[p.1]?=some p.2/\X.env.scope.names.lookup p.2=some .cell)/\scope.names.lookup p.2=some .free
theorem COk.of {N0:List Str}(hsc:X.env.scope=sc)(hN0:X.N=N0)(ok:UU sc scope N0 tns caps=true):COk X scope caps:=by
 subst hsc
 subst hN0
 unfold UU at ok
 simp only[Bool.and_eq_true,List.all_eq_true,beq_iff_eq,Bool.or_eq_true,Bool.not_eq_true',beq_eq_false_iff_ne] at ok
 exact⟨ok.1.1.1.1,ok.1.1.1.2,λy hy e=>(ok.1.1.2 y hy).resolve_left (absurd e),λy hy e=>(ok.1.2 y hy).resolve_left (absurd e),ok.2⟩
section
variable {pins:List (Addr×Obj)}{σ:St}{H:Hp}{s:Shared}{fp:List Addr}{cl:List (Str×Addr)}{C:Addr}{E:Value->Shared->Prop}{N:List Str}{h₁:Heap}
theorem EB (ok:COk X scope caps)(I:Inv X pins σ H s)(hf:∀b∈fp,Ga X pins H b)(hlt:∀b∈fp,b<s.heap.objs.size)
  (hsub:∀x c,cl.lookup x=some c->X.env.cells.lookup x=some c)(hall:∀x,(x,NameKind.free)∈scope.names->∃c,cl.lookup x=some c)(hC:s.heap.objs.size<C):(X.comp N scope cl C s H fp E).Ok:=
 ⟨I.ok.mod,ok.kind,I.ok.glob,I.ok.blt,Nat.le_of_lt hC,λx y c h1 h2=>I.ok.inj x y c (hsub x c h1) (hsub y c h2),λx hx=>hall x (hx.elim (λz=>QJ ok.cell z (.inl rfl)) λz=>QJ ok.cell z (.inr rfl)),(λx c hx=>by cases hx),I.ok.hd,I.ok.frames, .inl rfl,
  λb hb=>⟨Nat.ne_of_lt (Nat.lt_trans (hlt b hb) hC),λx c e=>(hf b hb).2.2.2.2.1 x c (hsub x c e)⟩,I.bs,Nat.le_trans I.ok.bsz I.sz,λb o e hb=>(hf b hb).2.2.2.1.elim (I.ok.noex b o e) λz=>absurd (Nat.lt_of_lt_of_le (Heap.lt_size e) (Nat.le_trans I.ok.bsz z)) (Nat.lt_irrefl _),
  λb hb hz=>(List.mem_cons.mp (I.stkSub b hz)).elim (hf b hb).2.1 (hf b hb).2.2.1,I.stack,I.stkFree⟩
theorem Bf (okc:COk X scope caps)(hn:tns.length=n)(ok:(X.comp (tns++caps.map (·.2)) scope cl C s H fp E).Ok)(I:Inv X pins σ H s)
  (hsub:∀x c,cl.lookup x=some c->X.env.cells.lookup x=some c)(hall:∀x,(x,NameKind.free)∈scope.names->∃c,cl.lookup x=some c)(hC:s.heap.objs.size<C)(hns:h₁.Ns C λ_=>none)(old:∀b o,s.heap.get? b=some o->h₁.get? b=some o){tk:Nat}:
  Inv (X.comp (tns++caps.map (·.2)) scope cl C s H fp E) [] (Q3 n caps σ) H {s with heap:=h₁,toks:=tk}:=by
 refine⟨ok,rfl,I.bare,Un.kept old,⟨_,hns,λi x v e1 e2 _=>?_⟩,λx c e=>(I.cell x c (hsub x c e)).elim λv z=>z.elim λo z=>⟨v,o,old _ _ z.1,z.2⟩,I.hok.fresh (Nat.le_of_lt hC),λx c e=>I.freeC x c (hsub x c e),λp hp=>Gk (α:=Addr×Obj) hp,I.hok.kept old,by simp[Q3,hn]⟩
 obtain⟨hi,p,hp,hσ⟩:=Kb e2
 have e1':(tns++caps.map (·.2))[i]?=some x:=e1
 rw[List.getElem?_append_right (hn▸hi),hn,List.getElem?_map,hp] at e1'
 cases Option.some.inj e1'
 have p5:=okc.caps p (List.mem_of_getElem? hp)
 obtain⟨m,hm,hl⟩:=I.loc
 obtain⟨u,r,l⟩:=hl p.1 p.2 v p5.1.1 hσ (.inr (.inl p5.1.2))
 refine⟨u,r, .inr ?_⟩
 rcases l with⟨k,_⟩ | ⟨k,c,e,z⟩
 ·cases p5.1.2.symm.trans k
 ·obtain⟨c',e'⟩:=hall p.2 (PySem.mem_of_lookup p5.2)
  cases e.symm.trans (hsub _ _ e')
  exact⟨Jz (env:=X.env) p5.2,c,e',z.elim λo z=>⟨o,old _ _ z.1,z.2⟩⟩
variable {J:It}{it:Addr}{tn:Nat->Heap->Prop}{Q:V->Hp->Prop}{RR:Value->Addr->Result->Shared->Prop}{W:Nat->Nat->List V->Hp->Prop}{m0:Nat}
theorem E5 (ok:COk X scope caps)(hc:X.calm=true)(hn:tns.length=n)(hG:Uv n g)
  (hb:∀cl C s H ex E,PG (X.comp (tns++caps.map (·.2)) scope cl C s H ex E) tg g/\PTs (X.comp (tns++caps.map (·.2)) scope cl C s H ex E) ifs tt/\PE (X.comp (tns++caps.map (·.2)) scope cl C s H ex E) elt te)
  (I:Inv X pins σ H s)(T:Turn X.prog X.w X.K tg J fp it tn)(t0:tn 0 s.heap)(hf:∀b∈fp,Ga X pins H b)
  (hsub:∀x c,cl.lookup x=some c->X.env.cells.lookup x=some c)(hall:∀x,(x,NameKind.free)∈scope.names->∃c,cl.lookup x=some c)
  (w0:W 0 m0 [] H)(turn:Ht g tt te (Q3 n caps σ) Q J W)
  (hRR:∀D C ys H3 s',CompEnd X pins σ H3 D C ys s'->Q (.ref D) (upd H3 D (.lst ys))->RR (.ref D) C (.ok .next) s')
  (hC:s.heap.objs.size<C)(hns:h₁.Ns C λ_=>none)(old:∀b o,s.heap.get? b=some o->h₁.get? b=some o)(hacc:h₁.get? s.heap.objs.size=some (lob [] 0)){tk:Nat}:
  codeAny (model X.prog X.w) X.A (.compStart (.ListComp elt [⟨tg,iter,ifs,0⟩] scope pos) 0 (.ref it) (.ref s.heap.objs.size) (compEnvC scope cl C X.env)) (RR (.ref s.heap.objs.size) C) {s with heap:=h₁,toks:=tk}:=by
 have hlt:∀b∈fp,b<s.heap.objs.size:=λb hb=>(T.obj _ _ t0 b hb).elim λo e=>Heap.lt_size e.1
 have okY:∀E,(X.comp (tns++caps.map (·.2)) scope cl C s H fp E).Ok:=λE=>EB ok I hf hlt hsub hall hC
 have t1:tn 0 h₁:=T.keep _ _ _ t0 λb _ o e=>old b o e
 have loop:∀tk,codeAny (model X.prog X.w) X.A (.compLoop (.ListComp elt [⟨tg,iter,ifs,0⟩] scope pos) 0 (.ref it) (.ref s.heap.objs.size) (compEnvC scope cl C X.env)) (RR (.ref s.heap.objs.size) C) {s with heap:=h₁,toks:=tk}:=λtk=>
  have z:=hb cl C s H fp (notedBy (model X.prog X.w) X.A (compEnvC scope cl C X.env) λe s'=>RR (.ref s.heap.objs.size) C (.error e) s')
  GX (Y:=X.comp (tns++caps.map (·.2)) scope cl C s H fp _) rfl T hG z.1 z.2.1 z.2.2
   ⟨hc,rfl,Nat.ne_of_lt hC,λhz=>(I.stack.mem hz).2.elim λo ho=>absurd (Heap.lt_size ho.1) (Nat.lt_irrefl _),Nat.le_refl _,λx c e=>(I.cell x c (hsub x c e)).elim λv z=>Nat.ne_of_lt z.lt,λb hb=>Nat.ne_of_lt (hlt b hb),
    λb hb H' h'=>⟨h',Nat.ne_of_lt (Nat.lt_trans (hlt b hb) hC),(okY λ_ _=>True).exfs b hb, .inl hb,λx c e=>(hf b hb).2.2.2.2.1 x c (hsub x c e),λp hp=>Gk (α:=Addr×Obj) hp⟩⟩
   (λj v e=>(Kb e).1) turn (λys its k H3 s4 I4 rv hz q=>hRR _ C ys H3 s4 (C8 I hf (Nat.le_refl _) hC I4 I4.os I4.base I4.hok rfl rv hz) q)
   (.mk 0 H [] [] 0 ⟨Bf ok hn (okY _) I hsub hall hC hns old,t1,λb hb=>(hf b hb).1,hacc,I.hok.fresh (Nat.le_refl _)⟩ .nil w0)
 exact codeAny_compStart_list (loop _) (T.self _ 0 _ _ _ t1 (loop _))
theorem VS (ok:COk X scope caps)(hc:X.calm=true)(hn:tns.length=n)(hG:Uv n g)
  (hb:∀cl C s H ex E,PG (X.comp (tns++caps.map (·.2)) scope cl C s H ex E) tg g/\PTs (X.comp (tns++caps.map (·.2)) scope cl C s H ex E) ifs tt/\PE (X.comp (tns++caps.map (·.2)) scope cl C s H ex E) elt te)
  {itv:Value}(h:PIE X pins σ tg (λJ H1=>B5 n caps g tt te σ Q J H1) itv s)
  (hsub:∀x c,cl.lookup x=some c->X.env.cells.lookup x=some c)(hall:∀x,(x,NameKind.free)∈scope.names->∃c,cl.lookup x=some c)
  (hRR:∀D C ys H3 s',CompEnd X pins σ H3 D C ys s'->Q (.ref D) (upd H3 D (.lst ys))->RR (.ref D) C (.ok .next) s'):
  MC X elt tg iter ifs scope pos itv cl RR E s:=by
 obtain⟨it,fp,tn,J,H',rfl,I,T,t0,hf,W,⟨m0,w0⟩,turn⟩:=h
 refine wpAny_newObj_type (wpAny_newFunctionEnv ok.cell (by intro y hy;simp at hy) (λh₁ hns₁ hsb₁=>?_) ok.kind)
 have hs:∀o,(s.heap.push o).objs.size=s.heap.objs.size+1:=λo=>Heap.size_push ..
 exact E5 ok hc hn hG hb I T t0 hf hsub hall w0 turn hRR (Nat.lt_of_lt_of_eq (Nat.lt_succ_self _) (hs _).symm) hns₁
  (λb o e=>hsb₁.extBut b o (Nat.ne_of_lt (Nat.lt_trans (Heap.lt_size e) (Nat.lt_of_lt_of_eq (Nat.lt_succ_self _) (hs _).symm))) (Heap.get?_push_of_some _ (Heap.get?_push_of_some _ e)))
  (hsb₁.extBut _ _ (Nat.ne_of_lt (Nat.lt_of_lt_of_eq (Nat.lt_succ_self _) (hs _).symm)) (Heap.get?_push_of_some _ (Heap.get?_push_size _ rfl)))
end
theorem EU (sc:Scope)(N0:List Str)(tns:List Str)(caps:List (Nat×Str))(hc:X.calm=true)(hi:PI X tg iter wi)(hG:Uv tns.length g)
  (hb:∀cl C s H ex E,PG (X.comp (tns++caps.map (·.2)) scope cl C s H ex E) tg g/\PTs (X.comp (tns++caps.map (·.2)) scope cl C s H ex E) ifs tt/\PE (X.comp (tns++caps.map (·.2)) scope cl C s H ex E) elt te)
  (hsc:X.env.scope=sc:=by rfl)(hN0:X.N=N0:=by rfl)(ok:UU sc scope N0 tns caps=true:=by decide+kernel)
  (hs:∀x,foldedSetIterable iter X.env x=pure x:=by intro _;rfl):
  PE X (.ListComp elt [⟨tg,iter,ifs,0⟩] scope pos) (CK tns.length caps wi g tt te):=by
 intro pins s σ H Q I h
 have okc:=COk.of hsc hN0 ok
 obtain⟨cl,ecl,hsub,hall⟩:=Fk (scope:=scope) (env:=X.env) λx hx hfr=>I.ok.has x.1 (.inl (okc.free x hx hfr))
 rw[eval_ListComp]
 exact wpAny_comprehension_free (use:=none) rfl hs ecl okc.kind okc.loc (thn (hi pins s σ H _ I h) λxv s₁ h₁=>thn h₁ λitv s₂ h₂=>
  VS (RR:=λacc C=>compPost (model X.prog X.w) X.A X.xe none (EP X pins σ Q) acc C) okc hc rfl hG hb h₂ hsub hall λD C ys H3 s' ce q=>ce.ns.elim λmm hns=>
   ⟨mm,hns,λh' hs'=>⟨.ref D,_,ce.inv.turned (t':=s'.toks) (λb o hb' e=>(hs'.extBut b o hb' e)) ce.fp.1 ce.fp.2.1 ce.fp.2.2.2.1 ce.fp.2.2.2.2.1 ce.fp.2.2.2.2.2,rfl,q⟩⟩)
theorem J5 {x:Str}{px spos:Pos}(j:Nat)(sc:Scope)(N0:List Str)(tns:List Str)(caps:List (Nat×Str))(hc:X.calm=true)(hN:X.N.Nodup)(hj:X.N[j]?=some x)(hx:X.env.scope.names.lookup x=some .local)(hi:PI X tg iter wi)(hG:Uv tns.length g)
  (hb:∀cl C s H ex E,PG (X.comp (tns++caps.map (·.2)) scope cl C s H ex E) tg g/\PTs (X.comp (tns++caps.map (·.2)) scope cl C s H ex E) ifs tt/\PE (X.comp (tns++caps.map (·.2)) scope cl C s H ex E) elt te)
  (hsc:X.env.scope=sc:=by rfl)(hN0:X.N=N0:=by rfl)(ok:UU sc scope N0 tns caps=true:=by decide+kernel)
  (hsw:swapsWith (.ListComp elt [⟨tg,iter,ifs,0⟩] scope pos) (some (.Name x px)) spos.line X.env=pure true:=by rfl)
  (hs:∀x,foldedSetIterable iter X.env x=pure x:=by intro _;rfl):
  PS X (.Assign [.Name x px] (.ListComp elt [⟨tg,iter,ifs,0⟩] scope pos) spos) (Ei (CK tns.length caps wi g tt te) (YU j)):=by
 intro pins s σ H D I h
 have okc:=COk.of hsc hN0 ok
 obtain⟨cl,ecl,hsub,hall⟩:=Fk (scope:=scope) (env:=X.env) λx hx hfr=>I.ok.has x.1 (.inl (okc.free x hx hfr))
 rw[exec_Assign_Name_used _ _ _ _ hsw]
 refine wpAny_bind (wpAny_standAt (wpAny_bind ?_))
 show wpAny _ _ (do let _ ←comprehension (.ListComp elt [⟨tg,iter,ifs,0⟩] scope pos) scope X.env _ (newList []) false (eval iter X.env) (some (assign (.Name x px) X.env))) _ _ s
 refine wpAny_bind (thn (wpAny_comprehension_free (use:=some (assign (.Name x px) X.env)) (Q:=λ_ s'=>SP X pins D .next s') rfl hs ecl okc.kind okc.loc
  (thn (hi pins s σ H _ I h) λxv s₁ h₁=>thn h₁ λitv s₂ h₂=>?_)) λ_ s' hq=>wpAny_pure (wpAny_pure hq))
 refine VS (Q:=λv H1=>YU j v σ H1 D.nx) (RR:=λacc C=>compPost (model X.prog X.w) X.A X.xe (some (assign (.Name x px) X.env)) (λ_ s'=>SP X pins D .next s') acc C) okc hc rfl hG hb h₂ hsub hall ?_
 intro DD C ys H3 s' ce q
 obtain⟨mm,hns⟩:=ce.ns
 obtain⟨c0,c1,c2,c3,c4,c5⟩:=ce.fp
 show wpAny _ _ (assign (.Name x px) X.env (.ref DD)) _ _ _
 refine wpAny_assign_Name (Kd ce.inv hN hj (.inl hx) (v:=.ref DD) rfl (λs2 I2 chg=>?_) (.inr hx))
 obtain⟨c,hsb,hcc⟩:=chg
 have hCc:C≠c:=by
  rcases hcc with z |z
  ·rw[z];exact c1
  ·exact λe=>c4 x c z e.symm
 refine⟨mm,?_,λh' hs'=>?_⟩
 ·obtain⟨o,es,ep,ho,r⟩:=hns
  exact⟨o,es,ep,(hsb.2 C hCc).trans ho,r⟩
 ·exact⟨_,_,I2.turned (t':=s2.toks) (λb o hb' e=>(hs'.extBut b o hb' e)) c0 c1 c3 c4 c5,q⟩
end
section
variable {K:PySem.W.Frag}{a:Addr}{xs:List V}{n:Nat}{caps:List (Nat×Str)}{g:TG}{tt:TT}{te:TE}{σ:St}{H:Hp}{Q:V->Hp->Prop}
end
section
variable {X:Cx}{pos:Pos}
noncomputable def DZ (K:PySem.W.Frag):List V->Hp->VK->Prop:=λxs H Q=>∃ p ys,xs=[.ref p]/\(SqL K H p ys∨SqT K H p ys)/\Q (.int ys.length) H
theorem XU (K:PySem.W.Frag)(h:X.K=K):JI X (.builtin "len") (DZ K):=by subst h;exact Ku
theorem Xo (K:PySem.W.Frag)(h:X.K=K):IxR X (HF K):=by subst h;exact EV
theorem Zh (K:PySem.W.Frag)(h:X.K=K):IxR X (E1 K):=by subst h;exact IQ
theorem QA (K:PySem.W.Frag)(h:X.K=K):SlR X (LE K):=by subst h;exact Hz
theorem Ub (K:PySem.W.Frag)(h:X.K=K){es:List Expr}{k:Nat}{t:TGs}{n:Nat}(hc:X.calm=true)(hh:PGs X es t)
  (hn:(assignEach es X.env).length=n:=by rfl)(hst:(assignEach es X.env).findIdx? (·.1)=none:=by rfl):PG X (.Tuple es k pos) (Bc K n t):=by subst h;exact QG hc hh hn hst
end
structure Fn (P:Program)(w:World)(K:PySem.W.Frag)(mg:Str->Option Value)(base:Heap)(k:Nat)(x:Str)(ps:List Str)(sp:Sp):Prop where
 ex:∃f fd,FnOk P w K mg base CX0 k f fd ps sp/\KZ K fd ps []/\PySem.W.keepIn K (.ref f)=true/\mg x=some (.ref f)
section
variable {X:Cx}{k j:Nat}{x:Str}{ps:List Str}{sp:Sp}{e:Expr}{es:List Expr}{t:TA}{p pos:Pos}
theorem Yf (G:Fn X.prog X.w X.K X.mg X.base k x ps sp)(hr:Room j X.A)(hj:k<=j)(ha:PA X (e::es) t)(hg:Gl X x:=by rfl)(hdb:(x==("__debug__":Str))=false:=by decide)
  (he:starEach (e::es) X.env=(false,eval e X.env)::starEach es X.env:=by rfl)(hpl:(backTo pos (starEach es X.env)).any (·.1)=false:=by rfl):
  PE X (.Call (.Name x p) (e::es) [] pos) (U4 sp [] E0 t):=by
 obtain⟨f,fd,F,b,kp,m⟩:=G.ex
 exact EX F (hr.mono hj) hg m kp b .nil LV ha hdb he hpl
end
noncomputable def Def (K:PySem.W.Frag)(mg:Str->Option Value)(x:Str)(st:Stmt)(ps:List Str):Prop:=∃ f fd,Fun K x x st f fd/\KZ K fd ps []/\mg x=some (.ref f)
theorem YY {P:Program}{w:World}{K:PySem.W.Frag}{mg:Str->Option Value}{base:Heap}{x:Str}{st:Stmt}{N ps:List Str}{k:Nat}{sp:Sp}(D:Def K mg x st ps)(S:FnScope N ps (Xk st))(len:∀vs H Q E,sp vs H Q E->vs.length=ps.length)
  (hbody:∀(f:Addr) (cdv:Value) (A:Around) (outer:List Env) (s:Shared) (H:Hp) (vs:List V) (Q:VK) (E:XK),Room k (A.deeper (envOfC x (Xk st) s.heap.objs.size f cdv))->sp vs H Q E->
   ∃t,PSs (Es CX0 P w K mg base N x (Xk st) f cdv A outer s H E).nox (Yo st) t/\t {nx:=λ_ H'=>Q .non H',rt:=Q} (start N vs) H):Fn P w K mg base (k+1) x ps sp:=by
 obtain⟨f,fd,F,b,m⟩:=D
 exact⟨f,fd,F.ok S len (hbody f),b,F.kp,m⟩
theorem Xz {H:Hp}{p:Addr}(h:H p=none)(o:HO):Xr H (upd H p o):=λb u q=>by rw[Xs (XR q h)];exact q
theorem Xr.own {H H2:Hp}{p:Addr}(s:Xr H H2)(h:H p=none)(o:HO):Xr H (upd H2 p o):=λb u q=>by rw[Xs (XR q h)];exact s b u q
theorem Xr.new {H H2:Hp}{p:Addr}(s:Xr H H2)(h:H2 p=none)(o:HO):Xr H (upd H2 p o):=s.trans (Xz h o)
theorem hu8 {A:Around}{k:Nat}(hr:Room k A):A.units+8<cLine:=Nat.lt_of_le_of_lt (Nat.add_le_add_left (by decide:8<=64) _) hr.units
noncomputable abbrev Enc (α:Type):=PySem.W.Frag->Hp->V->α->Prop
noncomputable def Xa:Enc Int:=λ_ _ v i=>v= .int i
noncomputable def rL {α:Type}(r:Enc α):Enc (List α):=λK H v as=>∃ a xs,v= .ref a/\SqL K H a xs/\Paired (r K H) xs as
theorem Paired.getL {α β:Type}{F:α->β->Prop}:∀{l:List α}{m:List β}{i:Nat}{a:α},Paired F l m->l[i]?=some a->∃b,m[i]?=some b/\F a b
 |_,_,_,_, .nil,e=>by simp at e
 |_,_,0,_, .cons r _,e=>by simp at e;subst e;exact⟨_,rfl,r⟩
 |_,_,i+1,a, .cons _ t,e=>by
  obtain⟨b,h1,h2⟩:=Paired.getL (i:=i) (a:=a) t (by simpa using e)
  exact⟨b,by simpa using h1,h2⟩
theorem Paired.getR {α β:Type}{F:α->β->Prop}:∀{l:List α}{m:List β}{i:Nat}{b:β},Paired F l m->m[i]?=some b->∃a,l[i]?=some a/\F a b
 |_,_,_,_, .nil,e=>by simp at e
 |_,_,0,_, .cons r _,e=>by simp at e;subst e;exact⟨_,rfl,r⟩
 |_,_,i+1,b, .cons _ t,e=>by
  obtain⟨a,h1,h2⟩:=Paired.getR (i:=i) (b:=b) t (by simpa using e)
  exact⟨a,by simpa using h1,h2⟩
theorem Paired.len {α β:Type}{F:α->β->Prop}{l:List α}{m:List β}(h:Paired F l m):l.length=m.length:=Paired.length h
theorem Paired.app {α β:Type}{F:α->β->Prop}:∀{l l':List α}{m m':List β},Paired F l m->Paired F l' m'->Paired F (l++l') (m++m'):=λp h=>by
 induction p with
 |nil=>exact h
 |cons r _ ih=>exact .cons r ih
theorem KD (ns:List Int):∀{K:PySem.W.Frag}{H:Hp},Paired (Xa K H) (ns.map V.int) ns:=by
 intro K H
 induction ns with
 |nil=>exact .nil
 |cons n r ih=>exact .cons rfl ih
theorem Vl:∀{xs:List V}{ns:List Int}{K:PySem.W.Frag}{H:Hp},Paired (Xa K H) xs ns->xs=ns.map V.int
 |_,_,_,_, .nil=>rfl
 |_,_,_,_, .cons r t=>by
  have r':_=V.int _:=r
  rw[r',Vl t];rfl
structure EqOk {α:Type}[DecidableEq α](r:Enc α)(d:Nat):Prop where
 uniq:∀{X:Cx}{pins:List (Addr×Obj)}{σ:St}{H:Hp}{s:Shared}{x:V}{a b:α},Inv X pins σ H s->r X.K H x a->r X.K H x b->a=b
 eq:∀{X:Cx}{pins:List (Addr×Obj)}{σ:St}{H:Hp}{s:Shared}{x y:V}{v u:Value}{a b:α}{A:Around},Inv X pins σ H s->Yc x v->Yc y u->r X.K H x a->r X.K H y b->A.units+d<cLine->SeqAt.EqAt A s v u (decide (a=b))
 rc:∀{X:Cx}{pins:List (Addr×Obj)}{σ:St}{H:Hp}{s:Shared}{x y:V}{v u:Value}{a b:α}{A:Around},Inv X pins σ H s->Yc x v->Yc y u->r X.K H x a->r X.K H y b->A.units+d<cLine->SeqAt.RcAt A s v u (decide (a=b))
 ne:∀{X:Cx}{pins:List (Addr×Obj)}{σ:St}{H:Hp}{s:Shared}{x y:V}{v u:Value}{a b:α}{A:Around},Inv X pins σ H s->Yc x v->Yc y u->r X.K H x a->r X.K H y b->A.units+d<cLine->SeqAt.RcNeAt A s v u (!decide (a=b))
 keep:∀{K:PySem.W.Frag}{H H':Hp}{x:V}{a:α},Xr H H'->r K H x a->r K H' x a
theorem EqOk.up {α:Type}[DecidableEq α]{r:Enc α}{d e:Nat}(E:EqOk r d)(h:d<=e):EqOk r e:=
 ⟨E.uniq,λI rx ry h1 h2 hu=>E.eq I rx ry h1 h2 (by omega),λI rx ry h1 h2 hu=>E.rc I rx ry h1 h2 (by omega),λI rx ry h1 h2 hu=>E.ne I rx ry h1 h2 (by omega),E.keep⟩
theorem CY {a b:Int}:(a==b)=decide (a=b):=by rw[Bool.eq_iff_iff];simp
theorem eq_int:EqOk Xa 0 where
 uniq:=λ_ h1 h2=>by
  have h1':_=V.int _:=h1
  have h2':_=V.int _:=h2
  rw[h1'] at h2';injection h2'
 eq:=fun {X pins σ H s x y v u a b A} I rx ry h1 h2 _=>by
  have h1':x=V.int a:=h1
  have h2':y=V.int b:=h2
  subst h1' h2'
  obtain⟨t,rfl⟩:=rx
  obtain⟨t',rfl⟩:=ry
  rw[←CY];exact SeqAt.EqAt.int_int a t b t'
 rc:=fun {X pins σ H s x y v u a b A} I rx ry h1 h2 _=>by
  have h1':x=V.int a:=h1
  have h2':y=V.int b:=h2
  subst h1' h2'
  obtain⟨t,rfl⟩:=rx
  obtain⟨t',rfl⟩:=ry
  rw[←CY];exact SeqAt.RcAt.int_int a t b t'
 ne:=fun {X pins σ H s x y v u a b A} I rx ry h1 h2 _=>by
  have h1':x=V.int a:=h1
  have h2':y=V.int b:=h2
  subst h1' h2'
  obtain⟨t,rfl⟩:=rx
  obtain⟨t',rfl⟩:=ry
  rw[←CY];exact SeqAt.RcNeAt.int_int a t b t'
 keep:=λ_ h=>h
theorem Paired.uniq {α β:Type}{F:α->β->Prop}(hu:∀a b c,F a b->F a c->b=c):∀{l:List α}{m m':List β},Paired F l m->Paired F l m'->m=m':=fun {l m m'} p=>by
 induction p generalizing m' with
 |nil=>intro q;cases q;rfl
 |cons r _ ih=>intro q;cases q with |cons r' t'=>rw[hu _ _ _ r r',ih t']
theorem Paired.imp2 {α β:Type}{F G:α->β->Prop}(h:∀a b,F a b->G a b):∀{l:List α}{m:List β},Paired F l m->Paired G l m:=λp=>by
 induction p with
 |nil=>exact .nil
 |cons r _ ih=>exact .cons (h _ _ r) ih
section
variable {α:Type}[DecidableEq α]{r:Enc α}{d:Nat}
end
section
variable {α β:Type}[DecidableEq α][DecidableEq β]{r:Enc α}{q:Enc β}{d:Nat}
end
section
variable {X:Cx}{α:Type}[DecidableEq α]{r:Enc α}{d:Nat}
theorem J3:JI X (.builtin "isinstance") (λxs H Q=>∃ x n t b,xs=[x, .ty n]/\TyOf X.K H x t/\PySem.W.kitOne X.K t (.type n)=some b/\Q (.bl b) H):=by
 intro pins s σ H xs us Q I r h
 obtain⟨x,n,t,b,rfl,ty,e,q⟩:=h
 obtain⟨u,v,rfl,ru,rv⟩:=Yl.two r
 cases(show v=Value.type n from rv)
 exact DB I ru ty e λtk=>⟨.bl b,H,I.tok tk,rfl,q⟩
theorem Q1:OpR X (binaryOp .FloorDiv) (rI (λ_ j=>0<j/\j.natAbs.log2<9000) λi j=>.int (i/j)):=opI λi j _ _ _ _ _ hc q=>by
 refine floordiv_int (by omega) ?_ (.inl (PyProof.noPylong_of_log2 hc.2))
 rw[Int.fdiv_eq_ediv_of_nonneg i (by omega)]
 exact q
end
end L2
namespace PySem
open Sem (wp)
section
variable {prog:Program}{w:World}{A:Around}{E:Value->Shared->Prop}{s:Shared}
end
end PySem
namespace L2
open PySem PySem.Spec PyProof.Rows
theorem DK {α β:Type}{F:α->β->Prop}:∀{l:List α}{m:List β}{i:Nat}{b:β},Paired F l m->m[i]?=some b->∃a,l[i]?=some a/\F a b
 |_,_,_,_, .nil,e=>by simp at e
 |_,_,0,_, .cons r _,e=>by simp at e;subst e;exact⟨_,rfl,r⟩
 |_,_,i+1,b, .cons _ t,e=>by
  obtain⟨a,h1,h2⟩:=DK (i:=i) (b:=b) t (by simpa using e)
  exact⟨a,by simpa using h1,h2⟩
section
variable {X:Cx}{e:Expr}{te:TE}
noncomputable def Mm (K:PySem.W.Frag)(te ts:TE):TE:=λσ H Q=>te σ H λx H1=>ts σ H1 λy H2=>y= .int (-1)/\∃a xs,x= .ref a/\SqL K H2 a xs/\∀p,H2 p=none->Q (.ref p) (upd H2 p (.lst xs.reverse))
theorem FW {st:Expr}{ts:TE}{p2 pos:Pos}(K:PySem.W.Frag)(hK:X.K=K)(he:PE X e te)(hst:PE X st ts):PE X (.Subscript e (.Slice none none (some st) p2) pos) (Mm K te ts):=by
 intro pins s σ H Q I h
 subst hK
 refine Subscript_ (thn (he pins s σ H _ I h) λv s1 r9=>?_)
 obtain⟨x,H1,I1,r1,q1⟩:=r9
 refine wpAny_Slice ?_
 rw[evalPart_none]
 refine wpAny_pure ?_
 refine wpAny_pure ?_
 rw[evalPart_some]
 refine thn (hst pins s1 σ H1 _ I1 q1) λvk s3 r9=>?_
 obtain⟨y,H3,I3,r3,ey,a,xs,ex,hx,q⟩:=r9
 subst ey ex
 cases r1
 obtain⟨t,rfl⟩:=r3
 have I4:Inv X pins σ H3 {s3 with heap:=s3.heap.push {cls:=.type "slice",data:=.fields #[.none, .none, .int (-1) t]}}:=I3.kept (t':=s3.toks) λb ob q=>Heap.get?_push_of_some _ q
 obtain⟨its,r,ht,hz⟩:=I4.list hx
 have hlen:=r.length
 have hg:wpAny (model X.prog X.w) X.A (getItem (.ref a) (.ref s3.heap.objs.size)) (EP X pins σ Q) X.xe {s3 with heap:=s3.heap.push {cls:=.type "slice",data:=.fields #[.none, .none, .int (-1) t]}}:=by
  refine wpAny_getItem_list_slice ht.isList (Heap.IsSliceOf.new ..) .none .none (.int (-1) t) (by decide) ?_ (by rw[List.size_toArray];omega)
  rw[PySem.W.krv_pick]
  refine⟨.ref _,_,I4.laid (t':=s3.toks) (o:=.lst xs.reverse) (λb ob q=>Heap.get?_push_of_some _ q) (Nat.le_refl _) ?_,rfl,q _ (I4.hok.fresh (Nat.le_refl _))⟩
  exact⟨by rw[List.length_reverse];exact hz,its.reverse,0,r.reverse,Heap.get?_push_size _ rfl⟩
 show wpAny (model X.prog X.w) X.A (subscriptTail e (.Slice none none (some st) p2) (.ref a) (.ref s3.heap.objs.size)) (EP X pins σ Q) X.xe _
 exact tail_any (ops:=[.ref a, .ref s3.heap.objs.size]) ht.isList.typeIs slot_list_getitem.lookup hg (by with_unfolding_all rfl)
noncomputable def Mv (K:PySem.W.Frag):List V->Hp->VK->Prop:=λxs H Q=>∃ (a:Addr) (ns:List Int),xs=[.ref a]/\SqL K H a (ns.map V.int)/\Q (.int ns.sum) H
theorem FI (hc:X.calm=true):JI X (.builtin "sum") (Mv X.K):=by
 intro pins s σ H xs us Q I r h
 obtain⟨a,ns,rfl,hq,q⟩:=h
 obtain⟨u,rfl,ru⟩:=HD r
 cases ru
 obtain⟨its,rv,pl,hz⟩:=I.list hq
 have hi:IntsAre its ns:=GS rv
 have hlen:=hi.length
 have hlt:a<s.heap.objs.size:=by obtain⟨o,n,ho,_⟩:=pl;exact Heap.lt_size ho
 refine call_sum_walkG ?_
 refine wpAny_pyIter_list pl.isList ?_
 have W:=Walks.list (prog:=X.prog) (w:=X.w) (A:=X.A.in1) (I.ok.hd hc) s.heap.objs.size a (Nat.ne_of_lt hlt) its.toArray
 refine⟨s.heap.objs.size,_,_,_,_,_,λi=>ns.getD i 0,rfl,W,⟨⟨_,Heap.get?_push_size _ rfl,rfl,rfl⟩,pl.isList.at λo e=>Heap.get?_push_of_some _ e⟩,λb hb=>?_,λi v hv=>?_,λh' tk t' hk=>?_⟩
 ·rcases List.mem_cons.mp hb with e |hb
  ·rw[e,Heap.size_push];exact Nat.lt_succ_self _
  ·rw[List.mem_singleton.mp hb,Heap.size_push];exact Nat.lt_succ_of_lt hlt
 ·have hv':its[i]?=some v:=by simpa using hv
  have hil:i<its.length:=(List.getElem?_eq_some_iff.mp hv').1
  obtain⟨x,ex,rx⟩:=DK rv hv'
  rw[List.getElem?_map] at ex
  cases e:ns[i]? with
  |none=>rw[e] at ex;cases ex
  |some z=>
   rw[e] at ex
   have ex':V.int z=x:=Option.some.inj ex
   subst ex'
   obtain⟨t,rfl⟩:=rx
   exact⟨t,by simp[List.getD,e]⟩
 ·have I2:Inv X pins σ H {s with heap:=h',toks:=tk}:=I.kept (t':=tk) λb o e=>hk b o (λhm=>by
   rw[List.mem_singleton.mp hm] at e
   exact absurd (Heap.lt_size e) (Nat.lt_irrefl _)) (Heap.get?_push_of_some _ e)
  refine⟨.int ns.sum,H,I2,⟨t',?_⟩,q⟩
  rw[List.size_toArray,hlen,preSum_getD,List.take_length]
end
section
variable {X:Cx}{pins:List (Addr×Obj)}{σ:St}{H:Hp}{s:Shared}{h':Heap}
theorem Inv.turnLay {t':Nat}{ch:List Addr}{T:Addr}{u:HO}(I:Inv X pins σ H s)(k:∀b o,b∉ch->s.heap.get? b=some o->h'.get? b=some o)(hf:∀b∈ch,Ga X pins H b)
  (hp:s.heap.objs.size<=T)(new:YH X.prog X.w (upd H T u) h' T u):Inv X pins σ (upd H T u) {s with heap:=h',toks:=t'}:=by
 have hn:H T=none:=I.hok.fresh hp
 have nit:∀b o,H b=some o->b∉ch:=λb o e z=>by rw[(hf b z).1] at e;cases e
 refine I.step (g':=s.gens) (d':=s.drawn) (ch:=ch) (λb hb=>?_) (λb o _ _ hc e _=>k b o hc e) (λb o _ _ hc e _=>⟨o.slots,k b o hc e⟩)
  (λb o _ e n=>by rw[Xs (Nat.ne_of_lt (Nat.lt_of_lt_of_le (Heap.lt_size e) hp))];exact n)
  (λb o hc e=>⟨o,k b o hc e⟩) (λb xs e=>by rw[Xs (XR e hn)];exact e) (λb o xs e=>by rw[Xs (XR e hn)];exact e) (λb ps e=>⟨#[],by rw[Xs (XR e hn),e];simp⟩) (λm hm=>?_) (λb v e=>?_) I.bare
 ·obtain⟨f0,f1,f2,f3,f4,f5⟩:=hf b hb
  exact⟨f3,f1,f4,f5⟩
 ·obtain⟨o,es,ep,ho,r⟩:=hm
  exact⟨o,es,ep,k _ o (λz=>(hf _ z).2.1 rfl) ho,r⟩
 ·by_cases hb:b=T
  ·subst hb;rw[Yr] at e;cases e;exact new
  ·rw[Xs hb] at e
   refine(I.hok b v e).stay (λc o hc q=>k c o ?_ q) (λc q=>by rw[Xs (XR q hn)];exact q) λc xs q=>by rw[Xs (XR q hn)];exact q
   rcases hc with z |z
   ·rw[z];exact nit b v e
   ·exact nit c _ z
end
noncomputable def Ite (K:PySem.W.Frag)(a:Addr):It:=
 ⟨λi H=>∃ xs x,SqL K H a xs/\xs[i]?=some x,λi H y H'=>∃ p x,y= .ref p/\H p=none/\H'=upd H p (.tup [.int (i:Int),x])/\∀xs,SqL K H a xs->xs[i]?=some x,λi H=>∃ xs,SqL K H a xs/\xs.length<=i⟩
theorem CQ {P:Program}{w:World}{K:PySem.W.Frag}{elts:List Expr}{k:Nat}{pos:Pos}(a e it:Addr)(h1:e≠it)(h2:a≠e)(h3:a≠it):
  Turn P w K (.Tuple elts k pos) (Ite K a) [e,it] e (λi h=>(∃old,IsEnum h e it (i:Int) old)/\h.IsListIter it a i) where
 mem:=by simp
 obj:=λi h st b hb=>by
  obtain⟨⟨old,eo⟩,o,io,c,d⟩:=st
  rcases List.mem_cons.mp hb with z |z
  ·subst z
   exact⟨_,eo,λv z=>by cases z⟩
  ·have z:=List.mem_singleton.mp z
   subst z
   exact⟨o,io,λv z=>by rw[d] at z;cases z⟩
 keep:=λi h h' st k=>⟨let ⟨old,eo⟩:=st.1;⟨old,k e (by simp) _ eo⟩,st.2.at λo q=>k it (by simp) o q⟩
 item:=by
  intro X hP hw hK hc i pins s σ H E I hf st hg
  subst hP hw hK
  obtain⟨xs,x,hq,hx⟩:=hg
  obtain⟨its,rv,p,hz⟩:=I.list hq
  obtain⟨u,hu,ru⟩:=rv.get hx
  obtain⟨⟨old,eo⟩,io⟩:=id st
  have hu':its.toArray[i]?=some u:=by simpa using hu
  have W:=WalksT.enumerate (prog:=X.prog) (w:=X.w) (A:=X.A) (I.ok.hd hc) e it a h1 h2 h3 its.toArray
  refine wpAny_pyNext_enum_item eo io p.isList hu' h1 λh' eo' io' tup sz kk=>?_
  have hT:∀b o,s.heap.get? b=some o->s.heap.objs.size≠b:=λb o q z=>absurd (Heap.lt_size q) (by rw[←z];exact Nat.lt_irrefl _)
  have hTe:=hT e _ eo
  have hTi:s.heap.objs.size≠it:=by obtain⟨o,q,_⟩:=io;exact hT it o q
  have ha':h'.IsList a its.toArray:=p.isList.at λo q=>kk a o h2 h3 q
  refine⟨_,rfl,W.go elts k pos i s.heap.objs.size _ _ _ ⟨⟨_,eo'⟩,io',ha',hTe,hTi⟩ λh'' st' kk'=>?_⟩
  obtain⟨st2,io2,_⟩:=st'
  have tup2:=kk' _ _ (by simp[hTe,hTi]) tup
  have k2:∀b o,b∉ [e,it]->s.heap.get? b=some o->h''.get? b=some o:=λb o q1 q=>kk' b o q1 (kk b o (λz=>q1 (by simp[z])) (λz=>q1 (by simp[z])) q)
  refine⟨.ref s.heap.objs.size,upd H s.heap.objs.size (.tup [.int (i:Int),x]),I.turnLay (h':=h'') (t':=s.toks+1) k2 hf (Nat.le_refl _) ⟨by show 2<=sizeLine;decide,[.int (i:Int) s.toks,u], .cons ⟨_,rfl⟩ (.cons ru .nil),⟨_,tup2,⟨rfl,rfl⟩,_,rfl⟩⟩,rfl,
   ⟨_,x,rfl,I.hok.fresh (Nat.le_refl _),rfl,λys hy=>by rw[I.list_inj hy hq];exact hx⟩,⟨by simpa using st2,io2⟩,λb hb=>?_⟩
  rcases List.mem_cons.mp hb with z |z
  ·rw[z,Xs hTe.symm];exact(hf e (by simp)).1
  ·rw[List.mem_singleton.mp z,Xs hTi.symm];exact(hf it (by simp)).1
 done:=by
  intro X hP hw hK hc i pins s σ H E I hf st hg
  subst hP hw hK
  obtain⟨xs,hq,hx⟩:=hg
  obtain⟨its,rv,p,hz⟩:=I.list hq
  obtain⟨⟨old,eo⟩,io⟩:=id st
  obtain⟨f0,f1,f2,f3,f4,f5⟩:=hf it (by simp)
  have hl:=rv.length
  exact wpAny_pyNext_enum_end (I.ok.hd hc) eo io p.isList (by simp;omega) λh' eb=>⟨rfl,I.turned (t':=s.toks) (λb o hb q=>eb b o hb q) f0 f1 f3 f4 f5⟩
 self:=by
  intro A i s Q E st h
  obtain⟨⟨old,eo⟩,io⟩:=st
  exact wpAny_pyIter_enum eo h
section
variable {X:Cx}{elts:List Expr}{k:Nat}{pos0:Pos}
noncomputable def IW (K:PySem.W.Frag)(tl:TE):TI:=λσ H R=>tl σ H λx H1=>∃ a,x= .ref a/\(∃xs,SqL K H1 a xs)/\R (Ite K a) H1
theorem FR {l:Expr}{tl:TE}{p pos:Pos}(hg:Gl X "enumerate")(hm:X.mg "enumerate" =none)(hl:PE X l tl)(hs:starEach [l] X.env=[(false,eval l X.env)]:=by rfl):
  PI X (.Tuple elts k pos0) (.Call (.Name "enumerate" p) [l] [] pos) (IW X.K tl):=by
 intro pins s σ H R I h
 refine wpAny_Call_Name_kw (VU I hg hm boot_enumerate ?_)
 refine PyProof.Rows.callWith_type1 ?_ hs rfl
 rw[hs]
 show wpAny _ _ (spliced ((false,eval l X.env)::backTo pos [])) _ _ s
 refine Calls.spliced_cons (thn (hl pins s σ H _ I h) λv s1 ⟨x,H1,I1,r1,a,ex,⟨xs,hq⟩,q⟩=>?_)
 subst ex
 cases r1
 obtain⟨its,rv,pl,hz⟩:=I1.list hq
 refine Calls.spliced_nil ?_
 have hlt:a<s1.heap.objs.size:=by obtain⟨o,n,ho,_⟩:=pl;exact Heap.lt_size ho
 refine call_enumerate_list pl.isList λh' en io sz kk=>?_
 refine wpAny_pyIter_enum en ?_
 refine⟨_,[s1.heap.objs.size+1,s1.heap.objs.size],_,_,H1,rfl,I1.kept (t':=s1.toks) kk,CQ a _ _ (Nat.ne_of_gt (Nat.lt_succ_self _)) (Nat.ne_of_lt (Nat.lt_succ_of_lt hlt)) (Nat.ne_of_lt hlt),⟨⟨_,en⟩,io⟩,λb hb=>?_,q⟩
 have hb':s1.heap.objs.size<=b:=by
  rcases List.mem_cons.mp hb with z |z
  ·rw[z];exact Nat.le_succ _
  ·rw[List.mem_singleton.mp z];exact Nat.le_refl _
 exact I1.fpOk hb' (I1.hok.fresh hb')
end
noncomputable def Co (K:PySem.W.Frag):V->List V->Hp->VK->Prop:=λx vs H Q=>∃ l xs y,∃j:Nat,x= .ref l/\vs=[y]/\SqL K H l xs/\JJ y=true/\xs.all JJ=true/\(∃z,xs[j]?=some z/\eqV z y=true)/\(∀(m:Nat) z,m<j->xs[m]?=some z->eqV z y=false)/\Q (.int (j:Int)) H
section
variable {X:Cx}
theorem BH:MtR X "list.index" (Co X.K):=by
 intro pins s σ H x vs v us Q I rx rv h
 obtain⟨l,xs,y,j,rfl,rfl,hq,fy,fs,⟨z,hz,ez⟩,hm,q⟩:=h
 cases rx
 obtain⟨u,rfl,ry⟩:=Yl.one rv
 obtain⟨its,r,pl,hle⟩:=I.list hq
 have hl:=r.length
 have hjl:=(List.getElem?_eq_some_iff.mp hz).1
 have ge:∀(m:Nat) (w:V),xs[m]?=some w->∀hm:m<its.toArray.size,eqU y its.toArray[m]=eqV w y:=λm w hw hm=>by
  obtain⟨u',hu',ru'⟩:=r.get hw
  have e:its.toArray[m]=u':=by
   have:=(List.getElem?_eq_some_iff.mp hu').2
   simpa using this
  rw[e]
  exact Dd ru' (List.all_eq_true.mp fs w (List.mem_of_getElem? hw))
 obtain⟨o,n,ho,hc,hd,hs⟩:=id pl
 obtain⟨cls,dict,data,slots⟩:=o
 cases hc;cases hd;cases hs
 refine call_meets F.slot_list_index ⟨_,ho,rfl⟩ F.entry_list_index (F.args_list_index_2 _ _) (SeqAt.list_indexAt l its.toArray n none slots u (eqU y) j (by rw[List.size_toArray];omega) ?_ ?_ ?_) ⟨ho,λw hw=>JM ry fy r fs w (by simpa using hw),?_⟩
 ·have:sizeLine<2^63-1:=by decide
  omega
 ·rw[ge j z hz];exact ez
 ·intro m hm' hlt
  rw[ge m xs[m] (List.getElem?_eq_getElem (by omega))]
  exact hm m _ hlt (List.getElem?_eq_getElem (by omega))
 ·exact⟨.int (j:Int),H,I.tok _,⟨_,rfl⟩,q⟩
end
section
variable {α:Type}[DecidableEq α]{r:Enc α}{d:Nat}
end
section
variable {X:Cx}{o e f:Expr}{td ty tx:TE}{apos cpos:Pos}
end
section
variable {X:Cx}{elt tg iter:Expr}{ifs:List Expr}{scope sc:Scope}{pos:Pos}{n:Nat}{tns:List Str}{caps:List (Nat×Str)}{wi:TI}{g:TG}{tt:TT}{te:TE}
end
variable {X:Cx}
theorem Ks {l:List Expr}{p:Pos}{es:List Expr}{env:Env}:starEach (.List l p::es) env=(false,eval (.List l p) env)::starEach es env:=rfl
theorem DV {X:Cx}(K:PySem.W.Frag)(h:X.K=K):MtR X "list.index" (Co K):=by subst h;exact BH
variable {X:Cx}{o e:Expr}{es:List Expr}{to:TE}{t:TA}{name:Str}{apos cpos:Pos}{T id:String}{r:V->List V->Hp->VK->Prop}
theorem Im (K:PySem.W.Frag)(hK:X.K=K)(pa:PlainAttrs T)(slot:Slot T name id)(hty:typeOf (.builtin id)=pure (.type "method_descriptor"))(hm:MtR X id r)(ho:PE X o to)(ha:PA X (e::es) t)
  (hbase:attributeBase o name X.env (eval o X.env)=eval o X.env:=by rfl)
  (hfew:((backTo cpos (starEach (e::es) X.env)).all (λx=>!x.1)&&(backToKw cpos (keywordEach [] X.env)).all (λx=>x.1.isSome)
   &&decide ((e::es).length+([]:List Keyword).length+(if([]:List Keyword).isEmpty then 0 else 1)<30))=true:=by rfl)
  (hline:(apos.endLine==cpos.line)=true:=by rfl)(hs:starEach (e::es) X.env=(false,eval e X.env)::starEach es X.env:=by rfl)(hplain:(backTo cpos (starEach es X.env)).any (·.1)=false:=by rfl):
  PE X (.Call (.Attribute o name apos) (e::es) [] cpos) (tBM K T r to t):=by
 subst hK
 exact Jq pa slot hty hm ho ha hbase hfew hline hs hplain
end L2
namespace PySem
open PySem.Spec
namespace SeqAt
open MeetsSeq
end SeqAt
end PySem
namespace L2
open PySem PySem.Spec PyProof.Rows
section
variable {X:Cx}
end
section
variable {X:Cx}
end
section
variable {X:Cx}{α:Type}[DecidableEq α]{r:Enc α}{d:Nat}
end
section
variable {X:Cx}
end
section
variable {X:Cx}
variable {T:String}{name:Str}{id:String}{r:V->List V->Hp->VK->Prop}{o e:Expr}{es:List Expr}{to:TE}{t:TA}{apos cpos:Pos}
theorem Ln {K:PySem.W.Frag}(hK:X.K=K)(pa:PlainAttrs T)(slot:Slot T name id)(hty:typeOf (.builtin id)=pure (.type "method_descriptor"))(hm:MtR X id r)(ho:PE X o to)(ha:PA X (e::es) t)
  (hbase:attributeBase o name X.env (eval o X.env)=eval o X.env:=by rfl)
  (hfew:((backTo cpos (starEach (e::es) X.env)).all (λx=>!x.1)&&(backToKw cpos (keywordEach [] X.env)).all (λx=>x.1.isSome)
   &&decide ((e::es).length+([]:List Keyword).length+(if([]:List Keyword).isEmpty then 0 else 1)<30))=true:=by rfl)
  (hline:(apos.endLine==cpos.line)=true:=by rfl)(hs:starEach (e::es) X.env=(false,eval e X.env)::starEach es X.env:=by rfl)(hplain:(backTo cpos (starEach es X.env)).any (·.1)=false:=by rfl):
  PE X (.Call (.Attribute o name apos) (e::es) [] cpos) (tBM K T r to t):=Im K hK pa slot hty hm ho ha hbase hfew hline hs hplain
end
section
variable {X:Cx}{elt tg iter:Expr}{ifs:List Expr}{scope:Scope}{pos:Pos}{wi:TI}{g:TG}{tt:TT}{te:TE}
theorem Zu {sc:Scope}{N0:List Str}{tns:List Str}{caps:List (Nat×Str)}(hc:X.calm=true)(hi:PI X tg iter wi)(hG:Uv tns.length g)
  (hb:∀cl C s H ex E,PG (X.comp (tns++caps.map (·.2)) scope cl C s H ex E) tg g/\PTs (X.comp (tns++caps.map (·.2)) scope cl C s H ex E) ifs tt/\PE (X.comp (tns++caps.map (·.2)) scope cl C s H ex E) elt te)
  (hsc:X.env.scope=sc:=by rfl)(hN0:X.N=N0:=by rfl)(ok:UU sc scope N0 tns caps=true:=by decide+kernel)
  (hs:∀x,foldedSetIterable iter X.env x=pure x:=by intro _;rfl):
  PE X (.ListComp elt [⟨tg,iter,ifs,0⟩] scope pos) (CK tns.length caps wi g tt te):=EU sc N0 tns caps hc hi hG hb hsc hN0 ok hs
end
section
variable {X:Cx}{tg l:Expr}{tl:TE}{p pos:Pos}{K:PySem.W.Frag}
theorem X4 (h:X.K=K)(hl:PE X l tl):PI X tg l (ER K tl):=by subst h;exact HB hl
end
section
variable {X:Cx}
end
inductive Pay where
 |non |int (i:Int) |tag (t:Str) (xs:List Int)
 deriving DecidableEq
structure Exc where
 cls:Str
 pay:Pay
inductive Rs (α:Type) where
 |bad |err (x:Exc) |ok (a:α)
noncomputable def Rs.bind {α β:Type}:Rs α->(α->Rs β)->Rs β
 | .bad,_=>.bad
 | .err x,_=>.err x
 | .ok a,f=>f a
theorem Rs.ok_bind {α β:Type}(a:α)(f:α->Rs β):(Rs.ok a).bind f=f a:=rfl
noncomputable def chk {α:Type}(c:Prop)[Decidable c](m:Rs α):Rs α:=if c then m else .bad
theorem Xv {α:Type}{c:Prop}[Decidable c]{m:Rs α}(h:c):chk c m=m:=if_pos h
noncomputable abbrev Xy:=Addr×HO
noncomputable def IN:HO->Bool
 | .lst _=>true
 | .dK _=>true
 | .dT _=>true
 |_=>false
noncomputable def fl (OO:List (List Xy)):List Addr:=OO.flatten.map (·.1)
open Classical in
noncomputable def hid (H:Hp)(OO:List (List Xy)):Hp:=λb=>if b∈fl OO then none else H b
structure W (OO:List (List Xy))(H:Hp):Prop where
 tr:∀c∈OO.flatten,H c.1=some c.2
 nd:(fl OO).Nodup
 mu:∀c∈OO.flatten,IN c.2=true
theorem XI {H:Hp}{OO}{b:Addr}{o:HO}(h:hid H OO b=some o):H b=some o/\b∉fl OO:=by
 unfold hid at h
 split at h
 ·cases h
 ·exact⟨h,by assumption⟩
theorem YM {H:Hp}{OO}{b:Addr}{o:HO}(h:H b=some o)(n:b∉fl OO):hid H OO b=some o:=by
 unfold hid;rw[if_neg n];exact h
theorem Xn {H:Hp}{OO}:Xr (hid H OO) H:=λb o h=>(XI h).1
theorem Xh {H H':Hp}{OO}(s:Xr H H'):Xr (hid H OO) (hid H' OO):=λb o h=>YM (s _ _ (XI h).1) (XI h).2
theorem Zo {H H':Hp}{OO OO'}(s:Xr H H')(h:∀b,b∈fl OO'->b∈fl OO):Xr (hid H OO) (hid H' OO'):=λb o q=>YM (s _ _ (XI q).1) λz=>(XI q).2 (h b z)
theorem XD {C:List Xy}{OO}:fl (C::OO)=C.map (·.1)++fl OO:=by simp[fl]
theorem FK {OO}:fl ([]::OO)=fl OO:=by simp[fl]
theorem Z0 {H:Hp}{OO}:hid H ([]::OO)=hid H OO:=by unfold hid;rw[FK]
theorem W.keep {OO}{H H':Hp}(w:W OO H)(s:Xr H H'):W OO H':=⟨λc hc=>s _ _ (w.tr c hc),w.nd,w.mu⟩
theorem W.of {OO OO':List (List Xy)}{H:Hp}(w:W OO H)(h:OO'.flatten.Perm OO.flatten):W OO' H:=
 ⟨λc hc=>w.tr c (h.mem_iff.mp hc),(h.map _).nodup_iff.mpr w.nd,λc hc=>w.mu c (h.mem_iff.mp hc)⟩
theorem W.sub {OO OO':List (List Xy)}{H:Hp}(w:W OO H)(h:OO'.flatten.Sublist OO.flatten):W OO' H:=
 ⟨λc hc=>w.tr c (h.mem hc),(h.map _).nodup w.nd,λc hc=>w.mu c (h.mem hc)⟩
theorem W.tail {C OO}{H:Hp}(w:W (C::OO) H):W OO H:=w.sub (by simp)
theorem W.nil {OO}{H:Hp}(w:W OO H):W ([]::OO) H:=w.of (by simp)
theorem W.cell {C OO}{H:Hp}(w:W (C::OO) H):∀c∈C,H c.1=some c.2:=λc hc=>w.tr c (by simp[hc])
theorem Q4 {OO:List (List Xy)}{c:Xy}(h:c∈OO.flatten):c.1∈fl OO:=List.mem_map.mpr ⟨c,h,rfl⟩
theorem G5 {OO:List (List Xy)}{b:Addr}(h:b∈fl OO):∃o,(b,o)∈OO.flatten:=by
 obtain⟨⟨a,o⟩,hc,rfl⟩:=List.mem_map.mp h
 exact⟨o,hc⟩
theorem W.fresh {OO}{H:Hp}(w:W OO H){p:Addr}(h:H p=none):p∉fl OO:=λz=>by
 obtain⟨o,ho⟩:=G5 z
 have:=w.tr _ ho
 rw[h] at this;cases this
theorem W.new {OO}{H:Hp}(w:W OO H){p:Addr}(h:H p=none){o:HO}(m:IN o=true):W ([(p,o)]::OO) (upd H p o):=by
 have hf:=w.fresh h
 refine⟨λc hc=>?_,?_,λc hc=>?_⟩
 ·simp only[List.flatten_cons,List.cons_append,List.nil_append,List.mem_cons] at hc
  rcases hc with rfl |hc
  ·exact Yr
  ·rw[Xs (λe=>hf (by rw[←e];exact Q4 hc))];exact w.tr c hc
 ·rw[XD];simpa using ⟨hf,w.nd⟩
 ·simp only[List.flatten_cons,List.cons_append,List.nil_append,List.mem_cons] at hc
  rcases hc with rfl |hc
  ·exact m
  ·exact w.mu c hc
theorem Jl {OO}{H:Hp}{p:Addr}(h:H p=none){o:HO}:Xr (hid H OO) (hid (upd H p o) ([(p,o)]::OO)):=λb u q=>by
 obtain⟨q1,q2⟩:=XI q
 have hb:b≠p:=XR q1 h
 refine YM (by rw[Xs hb];exact q1) ?_
 rw[XD];simpa using ⟨hb,q2⟩
theorem Zv {OO}{H:Hp}(w:W OO H){p:Addr}(h:H p=none){o:HO}:hid (upd H p o) OO p=some o:=YM Yr (w.fresh h)
class MonoE {α:Type}(r:Enc α):Prop where
 mono:∀{K:PySem.W.Frag}{H H':Hp}{v:V}{a:α},Xr H H'->r K H v a->r K H' v a
noncomputable def Mj:HO->Bool
 | .tup _=>true
 | .frz _ _=>true
 |_=>false
noncomputable def VL (H H':Hp):Prop:=∀ b o,H b=some o->Mj o=true->H' b=some o
theorem Xr.i {H H':Hp}(s:Xr H H'):VL H H':=λb o h _=>s b o h
theorem W.i {OO}{H:Hp}(w:W OO H):VL H (hid H OO):=λb o h i=>YM h λz=>by
 obtain⟨u,hu⟩:=G5 z
 have h1:=w.tr _ hu
 have h2:=w.mu _ hu
 rw[h] at h1
 have e:o=u:=Option.some.inj h1
 subst e
 revert i h2;cases o<;> simp[Mj,IN]
theorem VL.trans {H H1 H2:Hp}(a:VL H H1)(b:VL H1 H2):VL H H2:=λc o h i=>b c o (a c o h i) i
class FlatE {α:Type}(r:Enc α):Prop where
 flat:∀{K:PySem.W.Frag}{H H':Hp}{v:V}{a:α},VL H H'->r K H v a->r K H' v a
instance {α:Type}{r:Enc α}[f:FlatE r]:MonoE r:=⟨λs h=>f.flat s.i h⟩
noncomputable def XZ:Enc Bool:=λ_ _ v b=>v= .bl b
noncomputable def rV {α:Type}(r:Enc α):Enc (List α):=λK H v as=>∃ a xs,v= .ref a/\H a=some (.lst xs)/\Paired (r K H) xs as
noncomputable def rPL {α:Type}(r:Enc α):Enc (List α):=λK H v as=>∃ a xs,v= .ref a/\H a=some (.tup xs)/\Paired (r K H) xs as
noncomputable def rP2 {α β:Type}(r:Enc α)(q:Enc β):Enc (α×β):=λK H v p=>∃ a x y,v= .ref a/\H a=some (.tup [x,y])/\r K H x p.1/\q K H y p.2
noncomputable def rP3 {α β γ:Type}(r:Enc α)(q:Enc β)(t:Enc γ):Enc (α×β×γ):=λK H v p=>∃ a x y z,v= .ref a/\H a=some (.tup [x,y,z])/\r K H x p.1/\q K H y p.2.1/\t K H z p.2.2
instance {α:Type}{r:Enc α}[m:MonoE r]:MonoE (rV r):=⟨λs r9=>by obtain⟨a,xs,e,q,p⟩:=r9;exact⟨a,xs,e,s _ _ q,Paired.imp2 (λ_ _ z=>m.mono s z) p⟩⟩
instance {α:Type}{r:Enc α}[m:MonoE r]:MonoE (rPL r):=⟨λs r9=>by obtain⟨a,xs,e,q,p⟩:=r9;exact⟨a,xs,e,s _ _ q,Paired.imp2 (λ_ _ z=>m.mono s z) p⟩⟩
instance {α:Type}{r:Enc α}[m:FlatE r]:FlatE (rPL r):=⟨λs r9=>by obtain⟨a,xs,e,q,p⟩:=r9;exact⟨a,xs,e,s _ _ q rfl,Paired.imp2 (λ_ _ z=>m.flat s z) p⟩⟩
instance {α β:Type}{r:Enc α}{q:Enc β}[m:MonoE r][n:MonoE q]:MonoE (rP2 r q):=⟨λs r9=>by obtain⟨a,x,y,e,h,p1,p2⟩:=r9;exact⟨a,x,y,e,s _ _ h,m.mono s p1,n.mono s p2⟩⟩
instance {α β:Type}{r:Enc α}{q:Enc β}[m:FlatE r][n:FlatE q]:FlatE (rP2 r q):=⟨λs r9=>by obtain⟨a,x,y,e,h,p1,p2⟩:=r9;exact⟨a,x,y,e,s _ _ h rfl,m.flat s p1,n.flat s p2⟩⟩
instance {α β γ:Type}{r:Enc α}{q:Enc β}{t:Enc γ}[m:MonoE r][n:MonoE q][k:MonoE t]:MonoE (rP3 r q t):=⟨λs r9=>by obtain⟨a,x,y,z,e,h,p1,p2,p3⟩:=r9;exact⟨a,x,y,z,e,s _ _ h,m.mono s p1,n.mono s p2,k.mono s p3⟩⟩
instance {α β γ:Type}{r:Enc α}{q:Enc β}{t:Enc γ}[m:FlatE r][n:FlatE q][k:FlatE t]:FlatE (rP3 r q t):=⟨λs r9=>by obtain⟨a,x,y,z,e,h,p1,p2,p3⟩:=r9;exact⟨a,x,y,z,e,s _ _ h rfl,m.flat s p1,n.flat s p2,k.flat s p3⟩⟩
instance:FlatE Xa:=⟨λ_ h=>h⟩
instance:FlatE XZ:=⟨λ_ h=>h⟩
instance {α:Type}{r:Enc α}[m:MonoE r]:MonoE (rL r):=⟨λs r9=>by obtain⟨a,xs,e,q,p⟩:=r9;exact⟨a,xs,e,s.seq q,Paired.imp2 (λ_ _ z=>m.mono s z) p⟩⟩
noncomputable abbrev OE (α:Type):=PySem.W.Frag->Hp->V->α->List Xy->Prop
inductive P3 {α β γ:Type}(F:α->β->γ->Prop):List α->List β->List γ->Prop where
 |nil:P3 F [] [] []
 |cons {a b c l m n}:F a b c->P3 F l m n->P3 F (a::l) (b::m) (c::n)
noncomputable def oF {α:Type}(r:Enc α):OE α:=λK h v a C=>C=[]/\r K h v a
noncomputable def oL {α:Type}(o:OE α):OE (List α):=λK h v as C=>∃ p xs Cs,v= .ref p/\P3 (o K h) xs as Cs/\C=(p, .lst xs)::Cs.flatten
noncomputable def oT2 {α β:Type}(o:OE α)(q:OE β):OE (α×β):=λK h v a C=>∃ p x y C1 C2,v= .ref p/\h p=some (.tup [x,y])/\o K h x a.1 C1/\q K h y a.2 C2/\C=C1++C2
section
variable {α β γ δ:Type}
theorem P3.imp {F G:α->β->γ->Prop}(h:∀a b c,F a b c->G a b c):∀{l m n},P3 F l m n->P3 G l m n:=λp=>by
 induction p with
 |nil=>exact .nil
 |cons r _ ih=>exact .cons (h _ _ _ r) ih
theorem P3.app {F:α->β->γ->Prop}:∀{l m n l' m' n'},P3 F l m n->P3 F l' m' n'->P3 F (l++l') (m++m') (n++n'):=λp h=>by
 induction p with
 |nil=>exact h
 |cons r _ ih=>exact .cons r ih
theorem P3.snoc {F:α->β->γ->Prop}{l m n a b c}(h:P3 F l m n)(r:F a b c):P3 F (l++[a]) (m++[b]) (n++[c]):=h.app (.cons r .nil)
theorem P3.len {F:α->β->γ->Prop}:∀{l m n},P3 F l m n->l.length=m.length/\n.length=m.length:=λp=>by
 induction p with
 |nil=>exact⟨rfl,rfl⟩
 |cons _ _ ih=>exact⟨congrArg Nat.succ ih.1,congrArg Nat.succ ih.2⟩
theorem P3.pair {F:α->β->γ->Prop}{G:α->β->Prop}:∀{l m n},P3 F l m n->(∀a b c,c∈n->F a b c->G a b)->Paired G l m:=λp h=>by
 induction p with
 |nil=>exact .nil
 |cons r _ ih=>exact .cons (h _ _ _ List.mem_cons_self r) (ih λa b c hc=>h a b c (List.mem_cons_of_mem _ hc))
theorem P3.get {F:α->β->γ->Prop}:∀{l m n}{i:Nat}{b:β},P3 F l m n->m[i]?=some b->∃a c,l[i]?=some a/\n[i]?=some c/\F a b c
 |_,_,_,_,_, .nil,e=>by simp at e
 |_,_,_,0,_, .cons r _,e=>by simp at e;subst e;exact⟨_,_,rfl,rfl,r⟩
 |_,_,_,i+1,b, .cons _ t,e=>by
  obtain⟨a,c,h1,h2,h3⟩:=P3.get (i:=i) (b:=b) t (by simpa using e)
  exact⟨a,c,by simpa using h1,by simpa using h2,h3⟩
theorem P3.set {F:α->β->γ->Prop}{a:α}{b:β}{c:γ}(r:F a b c):∀{l m n} (i:Nat),P3 F l m n->P3 F (l.set i a) (m.set i b) (n.set i c)
 |_,_,_,_, .nil=>.nil
 |_,_,_,0, .cons _ t=>.cons r t
 |_,_,_,i+1, .cons q t=>.cons q (P3.set r i t)
theorem P3.flat {F:α->β->Prop}:∀{l:List α}{m:List β}{n:List (List Xy)},P3 (λa b c=>c=[]/\F a b) l m n->Paired F l m/\n.flatten=[]:=λp=>by
 induction p with
 |nil=>exact⟨.nil,rfl⟩
 |cons r _ ih=>exact⟨.cons r.2 ih.1,by rw[List.flatten_cons,r.1,ih.2];rfl⟩
theorem P3.of {F:α->β->Prop}:∀{l:List α}{m:List β},Paired F l m->P3 (λa b (c:List Xy)=>c=[]/\F a b) l m (List.replicate m.length [])
 |_,_, .nil=>.nil
 |_,_, .cons r t=>.cons ⟨rfl,r⟩ (P3.of t)
theorem Y9:∀n:Nat,(List.replicate n ([]:List Xy)).flatten=[]
 |0=>rfl
 |n+1=>by simp[List.replicate_succ,Y9 n]
end
class MonoO {α:Type}(o:OE α):Prop where
 mono:∀{K:PySem.W.Frag}{H H':Hp}{v:V}{a:α}{C:List Xy},Xr H H'->o K H v a C->o K H' v a C
class FlatO {α:Type}(o:OE α):Prop where
 flat:∀{K:PySem.W.Frag}{H H':Hp}{v:V}{a:α}{C:List Xy},VL H H'->o K H v a C->o K H' v a C
class FrzC {α:Type}(o:OE α)(r:outParam (Enc α)):Prop where
 frz:∀{K:PySem.W.Frag}{H H':Hp}{v:V}{a:α}{C:List Xy},o K H v a C->Xr H H'->(∀c∈C,H' c.1=some c.2)->r K H' v a
instance {α:Type}{r:Enc α}[m:MonoE r]:MonoO (oF r):=⟨λs h=>⟨h.1,m.mono s h.2⟩⟩
instance {α:Type}{r:Enc α}[m:FlatE r]:FlatO (oF r):=⟨λs h=>⟨h.1,m.flat s h.2⟩⟩
instance {α:Type}{r:Enc α}[m:MonoE r]:FrzC (oF r) r:=⟨λh s _=>m.mono s h.2⟩
instance {α:Type}{o:OE α}[m:MonoO o]:MonoO (oL o):=⟨λs r9=>by obtain⟨p,xs,Cs,e,q,c⟩:=r9;exact⟨p,xs,Cs,e,q.imp λ_ _ _ z=>m.mono s z,c⟩⟩
instance {α:Type}{o:OE α}[m:FlatO o]:FlatO (oL o):=⟨λs r9=>by obtain⟨p,xs,Cs,e,q,c⟩:=r9;exact⟨p,xs,Cs,e,q.imp λ_ _ _ z=>m.flat s z,c⟩⟩
instance {α:Type}{o:OE α}{r:Enc α}[m:FrzC o r]:FrzC (oL o) (rV r):=⟨λ⟨p,xs,Cs,e,q,c⟩ s hc=>by
 subst c
 exact⟨p,xs,e,hc _ List.mem_cons_self,q.pair λa b c hm z=>m.frz z s λx hx=>hc x (List.mem_cons_of_mem _ (List.mem_flatten.mpr ⟨c,hm,hx⟩))⟩⟩
instance {α β:Type}{o:OE α}{q:OE β}[m:MonoO o][n:MonoO q]:MonoO (oT2 o q):=⟨λs r9=>by obtain⟨p,x,y,C1,C2,e,h,h1,h2,c⟩:=r9;exact⟨p,x,y,C1,C2,e,s _ _ h,m.mono s h1,n.mono s h2,c⟩⟩
instance {α β:Type}{o:OE α}{q:OE β}[m:FlatO o][n:FlatO q]:FlatO (oT2 o q):=⟨λs r9=>by obtain⟨p,x,y,C1,C2,e,h,h1,h2,c⟩:=r9;exact⟨p,x,y,C1,C2,e,s _ _ h rfl,m.flat s h1,n.flat s h2,c⟩⟩
instance {α β:Type}{o:OE α}{q:OE β}{r:Enc α}{t:Enc β}[m:FrzC o r][n:FrzC q t]:FrzC (oT2 o q) (rP2 r t):=⟨λ⟨p,x,y,C1,C2,e,h,h1,h2,c⟩ s hc=>by
 subst c
 exact⟨p,x,y,e,s _ _ h,m.frz h1 s λc hm=>hc c (by simp[hm]),n.frz h2 s λc hm=>hc c (by simp[hm])⟩⟩
structure SC where
 p:Hp->Prop
 mono:∀h h',Xr h h'->p h->p h'
noncomputable def SC.nil:SC:=⟨λ_=>True,λ_ _ _ _=>True.intro⟩
noncomputable def SC.and (S T:SC):SC:=⟨λh=>S.p h/\T.p h,λ_ _ s q=>⟨S.mono _ _ s q.1,T.mono _ _ s q.2⟩⟩
noncomputable def SC.one {α:Type}(K:PySem.W.Frag)(r:Enc α)[m:MonoE r](v:V)(a:α):SC:=⟨λh=>r K h v a,λ_ _ s q=>m.mono s q⟩
noncomputable def SC.oneO {α:Type}(K:PySem.W.Frag)(o:OE α)[m:MonoO o](v:V)(a:α)(C:List Xy):SC:=⟨λh=>o K h v a C,λ_ _ s q=>m.mono s q⟩
noncomputable abbrev SC.add {α:Type}(S:SC)(K:PySem.W.Frag)(r:Enc α)[m:MonoE r](v:V)(a:α):SC:=S.and (SC.one K r v a)
noncomputable abbrev SC.addO {α:Type}(S:SC)(K:PySem.W.Frag)(o:OE α)[m:MonoO o](v:V)(a:α)(C:List Xy):SC:=S.and (SC.oneO K o v a C)
theorem SC.l {S T:SC}{h:Hp}(q:(S.and T).p h):S.p h:=q.1
theorem SC.r {S T:SC}{h:Hp}(q:(S.and T).p h):T.p h:=q.2
theorem SC.i {S T:SC}{h:Hp}(q:S.p h)(p:T.p h):(S.and T).p h:=⟨q,p⟩
theorem SC.t {h:Hp}:SC.nil.p h:=True.intro
theorem SC.p.l {S T:SC}{h:Hp}(q:(S.and T).p h):S.p h:=q.1
theorem SC.p.r {S T:SC}{h:Hp}(q:(S.and T).p h):T.p h:=q.2
noncomputable def PZ {β:Type}(Er:Exc->Hp->Prop)(F:β->Hp->Prop)(H:Hp)(m:Rs β):Prop:=
 match m with
 | .bad=>False
 | .err x=>∀ H',Xr H H'->Er x H'
 | .ok b=>F b H
section
variable (K:PySem.W.Frag)(Er:Exc->Hp->Prop)(S:SC)(OO OO':List (List Xy))(σ:St)
noncomputable def FB {α:Type}(r:Enc α)(Q:VK)(a:α)(H:Hp):Prop:=∀ v H',Xr H H'->r K H' v a->Q v H'
noncomputable def FO {α:Type}(o:OE α)(Q:VK)(a:α)(H:Hp):Prop:=∀ v C H',Xr H H'->W (C::OO') H'->Xr (hid H OO) (hid H' (C::OO'))->o K (hid H' (C::OO')) v a C->Q v H'
noncomputable def FT (Q:Bool->Hp->Prop)(b:Bool)(H:Hp):Prop:=∀ H',Xr H H'->Q b H'
noncomputable def EvB {α:Type}(te:TE)(r:Enc α)(m:Rs α):Prop:=∀ H Q,W OO H->S.p (hid H OO)->PZ Er (FB K r Q) H m->te σ H Q
noncomputable def Ev {α:Type}(te:TE)(o:OE α)(m:Rs α):Prop:=∀ H Q,W OO H->S.p (hid H OO)->PZ Er (FO K OO OO' o Q) H m->te σ H Q
noncomputable def EvT (tt:TT)(m:Rs Bool):Prop:=∀ H Q,W OO H->S.p (hid H OO)->PZ Er (FT Q) H m->tt σ H Q
end
section
variable {K:PySem.W.Frag}{Er:Exc->Hp->Prop}{S:SC}{OO OO' OO2:List (List Xy)}{σ:St}{α β γ:Type}
theorem FB.tr {r:Enc α}{Q:VK}:∀a H H',Xr H H'->FB K r Q a H->FB K r Q a H':=λa H H' s h v H2 s2 q=>h v H2 (s.trans s2) q
theorem FO.tr {o:OE α}{Q:VK}:∀a H H',Xr H H'->FO K OO OO' o Q a H->FO K OO OO' o Q a H':=λa H H' s h v C H2 s2 w m q=>h v C H2 (s.trans s2) w ((Xh s).trans m) q
theorem FT.tr {Q:Bool->Hp->Prop}:∀b H H',Xr H H'->FT Q b H->FT Q b H':=λa H H' s h H2 s2=>h H2 (s.trans s2)
theorem EvB.run {te:TE}{r:Enc α}{m:Rs α}(he:EvB K Er S OO σ te r m){H:Hp}{Q:VK}(w:W OO H)(s:S.p (hid H OO)){f:α->Rs β}{F:β->Hp->Prop}(hF:∀b H H',Xr H H'->F b H->F b H')(P:PZ Er F H (m.bind f))
  (hk:∀a v H',Xr H H'->W OO H'->S.p (hid H' OO)->r K H' v a->PZ Er F H' (f a)->Q v H'):te σ H Q:=by
 refine he H Q w s ?_
 cases m with
 |bad=>exact P
 |err x=>exact P
 |ok a=>
  intro v H' s' hr
  refine hk a v H' s' (w.keep s') (S.mono _ _ (Xh s') s) hr ?_
  have P':PZ Er F H (f a):=P
  revert P'
  cases f a with
  |bad=>exact λz=>z
  |err x=>exact λz H2 s2=>z H2 (s'.trans s2)
  |ok b=>exact λz=>hF b H H' s' z
theorem Ev.run {te:TE}{o:OE α}{m:Rs α}(he:Ev K Er S OO OO' σ te o m){H:Hp}{Q:VK}(w:W OO H)(s:S.p (hid H OO)){f:α->Rs β}{F:β->Hp->Prop}(hF:∀b H H',Xr H H'->F b H->F b H')(P:PZ Er F H (m.bind f))
  (hk:∀a v C H',Xr H H'->W (C::OO') H'->Xr (hid H OO) (hid H' (C::OO'))->S.p (hid H' (C::OO'))->o K (hid H' (C::OO')) v a C->PZ Er F H' (f a)->Q v H'):te σ H Q:=by
 refine he H Q w s ?_
 cases m with
 |bad=>exact P
 |err x=>exact P
 |ok a=>
  intro v C H' s' w' m' ho
  refine hk a v C H' s' w' m' (S.mono _ _ m' s) ho ?_
  have P':PZ Er F H (f a):=P
  revert P'
  cases f a with
  |bad=>exact λz=>z
  |err x=>exact λz H2 s2=>z H2 (s'.trans s2)
  |ok b=>exact λz=>hF b H H' s' z
theorem EvT.run {tt:TT}{m:Rs Bool}(he:EvT Er S OO σ tt m){H:Hp}{Q:Bool->Hp->Prop}(w:W OO H)(s:S.p (hid H OO)){f:Bool->Rs β}{F:β->Hp->Prop}(hF:∀b H H',Xr H H'->F b H->F b H')(P:PZ Er F H (m.bind f))
  (hk:∀b H',Xr H H'->W OO H'->S.p (hid H' OO)->PZ Er F H' (f b)->Q b H'):tt σ H Q:=by
 refine he H Q w s ?_
 cases m with
 |bad=>exact P
 |err x=>exact P
 |ok a=>
  intro H' s'
  refine hk a H' s' (w.keep s') (S.mono _ _ (Xh s') s) ?_
  have P':PZ Er F H (f a):=P
  revert P'
  cases f a with
  |bad=>exact λz=>z
  |err x=>exact λz H2 s2=>z H2 (s'.trans s2)
  |ok b=>exact λz=>hF b H H' s' z
theorem Ev.toB {te:TE}{o:OE α}{r:Enc α}[z:FrzC o r]{m:Rs α}(he:Ev K Er S OO OO σ te o m):EvB K Er S OO σ te r m:=λH Q w s P=>by
 refine he H Q w s ?_
 cases m with
 |bad=>exact P
 |err x=>exact P
 |ok a=>exact λv C H' s' w' m' ho=>P v H' s' (z.frz ho Xn w'.cell)
theorem Ev.frz {te:TE}{o:OE α}{r:Enc α}[z:FrzC o r]{m:Rs α}(he:Ev K Er S OO OO' σ te o m):Ev K Er S OO OO' σ te (oF r) m:=λH Q w s P=>by
 refine he H Q w s ?_
 cases m with
 |bad=>exact P
 |err x=>exact P
 |ok a=>
  intro v C H' s' w' m' ho
  have hs:Xr (hid H' (C::OO')) (hid H' ([]::OO')):=Zo (Xr.refl _) λb hb=>by rw[FK] at hb;rw[XD];simp[hb]
  refine P v [] H' s' w'.tail.nil (m'.trans hs) ⟨rfl,z.frz ho hs λc hc=>YM (w'.cell c hc) ?_⟩
  rw[FK]
  have:=w'.nd
  rw[XD] at this
  intro hb
  exact(List.nodup_append.mp this).2.2 c.1 (List.mem_map.mpr ⟨c,hc,rfl⟩) c.1 hb rfl
theorem EvB.flat {te:TE}{r:Enc α}[z:FlatE r]{m:Rs α}(he:EvB K Er S OO σ te r m):Ev K Er S OO OO σ te (oF r) m:=λH Q w s P=>by
 refine he H Q w s ?_
 cases m with
 |bad=>exact P
 |err x=>exact P
 |ok a=>
  intro v H' s' hr
  have w':=w.keep s'
  exact P v [] H' s' w'.nil (by rw[Z0];exact Xh s') ⟨rfl,by rw[Z0];exact z.flat w'.i hr⟩
theorem Xc {r:Enc α}[z:MonoE r]{v:V}{a:α}(i:Nat)(hσ:σ[i]?=some (some v))(h:∀x,S.p x->r K x v a):EvB K Er S OO σ (F5 i) r (.ok a):=λH Q w s P=>
 ⟨v,hσ,P v H (Xr.refl _) (z.mono Xn (h _ s))⟩
theorem Vu {o:OE α}{r:Enc α}[z:FrzC o r]{v:V}{a:α}{C:List Xy}(i k:Nat)(hσ:σ[i]?=some (some v))(hk:OO[k]?=some C)(h:∀x,S.p x->o K x v a C):EvB K Er S OO σ (F5 i) r (.ok a):=λH Q w s P=>
 ⟨v,hσ,P v H (Xr.refl _) (z.frz (h _ s) Xn λc hc=>w.tr c (List.mem_flatten.mpr ⟨C,List.mem_of_getElem? hk,hc⟩))⟩
theorem XF:∀{OO:List (List Xy)}{k:Nat}{C:List Xy},OO[k]?=some C->(C::OO.set k []).flatten.Perm OO.flatten
 | [],_,_,h=>by simp at h
 |D::OO,0,C,h=>by simp at h;subst h;simp
 |D::OO,k+1,C,h=>by
  have:=XF (OO:=OO) (k:=k) (C:=C) (by simpa using h)
  simp only[List.set_cons_succ,List.flatten_cons] at this⊢
  refine List.Perm.trans ?_ (this.append_left D)
  rw[←List.append_assoc, ←List.append_assoc]
  exact List.perm_append_comm.append_right _
theorem Qg {OO OO':List (List Xy)}(h:OO'.flatten.Perm OO.flatten)(b:Addr):b∈fl OO'↔b∈fl OO:=(h.map (·.1)).mem_iff
theorem Xx {H:Hp}{OO OO':List (List Xy)}(h:OO'.flatten.Perm OO.flatten):hid H OO'=hid H OO:=by
 funext b;unfold hid
 by_cases hb:b∈fl OO
 ·rw[if_pos hb,if_pos ((Qg h b).mpr hb)]
 ·rw[if_neg hb,if_neg λz=>hb ((Qg h b).mp z)]
theorem YI {o:OE α}{v:V}{a:α}{C:List Xy}(i k:Nat)(hσ:σ[i]?=some (some v))(hk:OO[k]?=some C)(h:∀x,S.p x->o K x v a C):Ev K Er S OO (OO.set k []) σ (F5 i) o (.ok a):=λH Q w s P=>by
 have hp:=XF hk
 exact⟨v,hσ,P v C H (Xr.refl _) (w.of hp) (by rw[Xx hp];exact Xr.refl _) (by rw[Xx hp];exact h _ s)⟩
theorem Xe (n:Int):EvB K Er S OO σ (tC (.int n)) Xa (.ok n):=λH Q w s P=>P _ H (Xr.refl _) rfl
theorem Va (b:Bool):EvB K Er S OO σ (tC (.bl b)) XZ (.ok b):=λH Q w s P=>P _ H (Xr.refl _) rfl
theorem Vp {ta tb:TE}{g:Int->Int->V}{r:Enc β}{f:Int->Int->β}{ma mb:Rs Int}(hg:∀K H i j,r K H (g i j) (f i j))(ha:EvB K Er S OO σ ta Xa ma)(hb:EvB K Er S OO σ tb Xa mb):
  EvB K Er S OO σ (tOp (rI0 g) ta tb) r (ma.bind λa=>mb.bind λb=>.ok (f a b)):=λH Q w s P=>
 ha.run w s FB.tr P λa x H1 s1 w1 q1 r1 P1=>hb.run w1 q1 FB.tr P1 λb y H2 s2 w2 q2 r2 P2=>⟨a,b,r1,r2,P2 _ H2 (Xr.refl _) (hg K H2 a b)⟩
theorem V5 {ta tb:TE}{Cc:Int->Int->Prop}{g:Int->Int->V}{r:Enc β}{f:Int->Int->Rs β}{ma mb:Rs Int}(hg:∀K H i j c,f i j= .ok c->Cc i j/\r K H (g i j) c)(he:∀i j x,f i j≠ .err x)
  (ha:EvB K Er S OO σ ta Xa ma)(hb:EvB K Er S OO σ tb Xa mb):
  EvB K Er S OO σ (tOp (rI Cc g) ta tb) r (ma.bind λa=>mb.bind λb=>f a b):=λH Q w s P=>
 ha.run w s FB.tr P λa x H1 s1 w1 q1 r1 P1=>hb.run w1 q1 FB.tr P1 λb y H2 s2 w2 q2 r2 P2=>by
  cases e:f a b with
  |bad=>rw[e] at P2;exact P2.elim
  |err x=>exact absurd e (he a b x)
  |ok c=>
   rw[e] at P2
   obtain⟨h1,h2⟩:=hg K H2 a b c e
   exact⟨a,b,r1,r2,h1,P2 _ H2 (Xr.refl _) h2⟩
noncomputable def QE (a b:Int):Rs Int:=chk ((-(2^64)<a/\a<2^64)∨(-(2^64)<b/\b<2^64)) (.ok (a*b))
noncomputable def Zy (a b:Int):Rs Int:=chk (0<b) (.ok (a % b))
noncomputable def CT (a b:Int):Rs Int:=chk (0<b/\b.natAbs.log2<9000) (.ok (a/b))
noncomputable def HN (a b:Int):Rs Int:=chk (0<=b/\b<=1000000/\a.natAbs<2^64) (.ok (a^b.toNat))
theorem Zm {c:Prop}[Decidable c]{m:Rs α}{a:α}(h:chk c m= .ok a):c/\m= .ok a:=by
 unfold chk at h;split at h
 ·exact⟨by assumption,h⟩
 ·cases h
theorem Qa {c:Prop}[Decidable c]{a:α}{x:Exc}:chk c (Rs.ok a)≠ .err x:=by
 unfold chk;split<;> exact λz=>nomatch z
theorem XT {ta tb:TE}{ma mb:Rs Int}(ha:EvB K Er S OO σ ta Xa ma)(hb:EvB K Er S OO σ tb Xa mb):EvB K Er S OO σ (tOp (rI IX λi j=>.int (i*j)) ta tb) Xa (ma.bind λa=>mb.bind λb=>QE a b):=
 V5 (λK H i j c h=>by obtain⟨h1,h2⟩:=Zm h;cases h2;exact⟨h1,rfl⟩) (λi j x=>Qa) ha hb
theorem XE {ta tb:TE}{ma mb:Rs Int}(ha:EvB K Er S OO σ ta Xa ma)(hb:EvB K Er S OO σ tb Xa mb):EvB K Er S OO σ (tOp (rI (λ_ j=>0<j) λi j=>.int (i % j)) ta tb) Xa (ma.bind λa=>mb.bind λb=>Zy a b):=
 V5 (λK H i j c h=>by obtain⟨h1,h2⟩:=Zm h;cases h2;exact⟨h1,rfl⟩) (λi j x=>Qa) ha hb
theorem Vc {ta tb:TE}{ma mb:Rs Int}(ha:EvB K Er S OO σ ta Xa ma)(hb:EvB K Er S OO σ tb Xa mb):EvB K Er S OO σ (tOp (rI (λ_ j=>0<j/\j.natAbs.log2<9000) λi j=>.int (i/j)) ta tb) Xa (ma.bind λa=>mb.bind λb=>CT a b):=
 V5 (λK H i j c h=>by obtain⟨h1,h2⟩:=Zm h;cases h2;exact⟨h1,rfl⟩) (λi j x=>Qa) ha hb
theorem V9 {ta tb:TE}{ma mb:Rs Int}(ha:EvB K Er S OO σ ta Xa ma)(hb:EvB K Er S OO σ tb Xa mb):EvB K Er S OO σ (tOp (rI MA λi j=>.int (i^j.toNat)) ta tb) Xa (ma.bind λa=>mb.bind λb=>HN a b):=
 V5 (λK H i j c h=>by obtain⟨h1,h2⟩:=Zm h;cases h2;exact⟨h1,rfl⟩) (λi j x=>Qa) ha hb
theorem XM {ta tb:TE}{ma mb:Rs Int}(ha:EvB K Er S OO σ ta Xa ma)(hb:EvB K Er S OO σ tb Xa mb):EvB K Er S OO σ (tOp (rI0 λi j=>.int (i+j)) ta tb) Xa (ma.bind λa=>mb.bind λb=>.ok (a+b)):=Vp (λ_ _ _ _=>rfl) ha hb
theorem YO {ta tb:TE}{ma mb:Rs Int}(ha:EvB K Er S OO σ ta Xa ma)(hb:EvB K Er S OO σ tb Xa mb):EvB K Er S OO σ (tOp (rI0 λi j=>.int (i-j)) ta tb) Xa (ma.bind λa=>mb.bind λb=>.ok (a-b)):=Vp (λ_ _ _ _=>rfl) ha hb
theorem VZ {ta tb:TE}{ma mb:Rs Int}(ha:EvB K Er S OO σ ta Xa ma)(hb:EvB K Er S OO σ tb Xa mb):EvB K Er S OO σ (tOp (rI0 λi j=>.bl (decide (i<j))) ta tb) XZ (ma.bind λa=>mb.bind λb=>.ok (decide (a<b))):=Vp (λ_ _ _ _=>rfl) ha hb
theorem IE {ta tb:TE}{ma mb:Rs Int}(ha:EvB K Er S OO σ ta Xa ma)(hb:EvB K Er S OO σ tb Xa mb):EvB K Er S OO σ (tOp (rI0 λi j=>.bl (decide (i<=j))) ta tb) XZ (ma.bind λa=>mb.bind λb=>.ok (decide (a<=b))):=Vp (λ_ _ _ _=>rfl) ha hb
theorem VT {ta tb:TE}{ma mb:Rs Int}(ha:EvB K Er S OO σ ta Xa ma)(hb:EvB K Er S OO σ tb Xa mb):EvB K Er S OO σ (tOp (rI0 λi j=>.bl (decide (j<i))) ta tb) XZ (ma.bind λa=>mb.bind λb=>.ok (decide (b<a))):=Vp (λ_ _ _ _=>rfl) ha hb
theorem QK {ta:TE}{ma:Rs Int}(ha:EvB K Er S OO σ ta Xa ma):EvB K Er S OO σ (tUn (rU λi=>.int (-i)) ta) Xa (ma.bind λa=>.ok (-a)):=λH Q w s P=>
 ha.run w s FB.tr P λa x H1 s1 w1 q1 r1 P1=>⟨a,r1,P1 _ H1 (Xr.refl _) rfl⟩
class Scal {α:Type}[DecidableEq α](r:Enc α):Prop where
 to:∀{K:PySem.W.Frag}{H H':Hp}{x y:V}{a b:α},r K H x a->r K H' y b->Mb x y=true/\decide (x=y)=decide (a=b)
instance:Scal Xa:=⟨fun {K H H' x y a b} h1 h2=>by cases(show x= .int a from h1);cases(show y= .int b from h2);exact⟨rfl,by simp⟩⟩
instance:Scal XZ:=⟨fun {K H H' x y a b} h1 h2=>by cases(show x= .bl a from h1);cases(show y= .bl b from h2);exact⟨rfl,by simp⟩⟩
theorem ZW [DecidableEq α]{r:Enc α}[z:Scal r][MonoE r]{ta tb:TE}{ma mb:Rs α}(ha:EvB K Er S OO σ ta r ma)(hb:EvB K Er S OO σ tb r mb):EvB K Er S OO σ (tOp rEq ta tb) XZ (ma.bind λa=>mb.bind λb=>.ok (decide (a=b))):=λH Q w s P=>
 ha.run w s FB.tr P λa x H1 s1 w1 q1 r1 P1=>hb.run w1 q1 FB.tr P1 λb y H2 s2 w2 q2 r2 P2=>by
  obtain⟨h1,h2⟩:=z.to r1 r2
  exact⟨h1,P2 _ H2 (Xr.refl _) (by rw[h2];rfl)⟩
theorem B0 [DecidableEq α]{r:Enc α}[z:Scal r][MonoE r]{ta tb:TE}{ma mb:Rs α}(ha:EvB K Er S OO σ ta r ma)(hb:EvB K Er S OO σ tb r mb):EvB K Er S OO σ (tOp rNe ta tb) XZ (ma.bind λa=>mb.bind λb=>.ok (!decide (a=b))):=λH Q w s P=>
 ha.run w s FB.tr P λa x H1 s1 w1 q1 r1 P1=>hb.run w1 q1 FB.tr P1 λb y H2 s2 w2 q2 r2 P2=>by
  obtain⟨h1,h2⟩:=z.to r1 r2
  exact⟨h1,P2 _ H2 (Xr.refl _) (by rw[h2];rfl)⟩
theorem GZ {te:TE}{m:Rs Bool}(h:EvB K Er S OO σ te XZ m):EvT Er S OO σ (tB te) m:=λH Q w s P=>h H _ w s (by
 cases m with
 |bad=>exact P
 |err x=>exact P
 |ok a=>exact λv H' s' r=>⟨a,r,P H' s'⟩)
theorem XA {te:TE}{m:Rs Bool}(h:EvB K Er S OO σ te XZ m):EvT Er S OO σ (Il te) m:=GZ h
theorem Uz {t:TT}{m:Rs Bool}(h:EvT Er S OO σ t m):EvT Er S OO σ (Mo t) (m.bind λb=>.ok (!b)):=λH Q w s P=>h.run w s FT.tr P λb H1 s1 w1 q1 P1=>P1 H1 (Xr.refl _)
noncomputable def E7 (a b:Rs Bool):Rs Bool:=a.bind λx=>if x=true then b else .ok false
noncomputable def orR (a b:Rs Bool):Rs Bool:=a.bind λx=>if x=true then .ok true else b
theorem Fy {t u:TT}{m n:Rs Bool}(h:EvT Er S OO σ t m)(k:EvT Er S OO σ u n):EvT Er S OO σ (Ms t u) (E7 m n):=λH Q w s P=>h.run w s FT.tr P λb H1 s1 w1 q1 P1=>by
 cases b with
 |true=>rw[if_pos rfl] at P1⊢;exact k H1 Q w1 q1 P1
 |false=>exact P1 H1 (Xr.refl _)
theorem Em {t u:TT}{m n:Rs Bool}(h:EvT Er S OO σ t m)(k:EvT Er S OO σ u n):EvT Er S OO σ (tOr t u) (orR m n):=λH Q w s P=>h.run w s FT.tr P λb H1 s1 w1 q1 P1=>by
 cases b with
 |true=>exact P1 H1 (Xr.refl _)
 |false=>exact k H1 Q w1 q1 P1
theorem Be {t:TE}{m:Rs Bool}(h:EvB K Er S OO σ t XZ m):EvB K Er S OO σ (Ix t) XZ (m.bind λb=>.ok (!b)):=λH Q w s P=>h.run w s FB.tr P λb x H1 s1 w1 q1 r1 P1=>⟨b,r1,P1 _ H1 (Xr.refl _) rfl⟩
theorem BI {t u:TE}{m n:Rs Bool}(h:EvB K Er S OO σ t XZ m)(k:EvB K Er S OO σ u XZ n):EvB K Er S OO σ (Ip t u) XZ (E7 m n):=λH Q w s P=>h.run w s FB.tr P λb x H1 s1 w1 q1 r1 P1=>⟨b,r1,by
 cases b with
 |true=>rw[if_pos rfl] at P1⊢;exact k H1 Q w1 q1 P1
 |false=>exact P1 _ H1 (Xr.refl _) rfl⟩
theorem LO {c:TT}{ta tb:TE}{o:OE α}{mc:Rs Bool}{ma mb:Rs α}(hc:EvT Er S OO σ c mc)(ha:Ev K Er S OO OO' σ ta o ma)(hb:Ev K Er S OO OO' σ tb o mb):Ev K Er S OO OO' σ (tIf c ta tb) o (mc.bind λb=>if b=true then ma else mb):=λH Q w s P=>
 hc.run w s FO.tr P λb H1 s1 w1 q1 P1=>by
  cases b with
  |true=>rw[if_pos rfl] at P1⊢;exact ha H1 Q w1 q1 P1
  |false=>exact hb H1 Q w1 q1 P1
end
section
variable (K:PySem.W.Frag)(Er:Exc->Hp->Prop)(S:SC)(OO:List (List Xy))(σ:St)
noncomputable def FS {α:Type}(r:Enc α)(Q:VK)(a:α)(H:Hp):Prop:=∀ v H',Xr H H'->r K (hid H' OO) v a->Q v H'
noncomputable def EvS {α:Type}(te:TE)(r:Enc α)(m:Rs α):Prop:=∀ H Q,W OO H->S.p (hid H OO)->PZ Er (FS K OO r Q) H m->te σ H Q
noncomputable def rE {α:Type}(r:Enc α)(H:Hp)(v:V)(as:List α):Prop:=∃ p xs,v= .ref p/\H p=some (.lst xs)/\Paired (r K (hid H OO)) xs as
noncomputable def FL {α:Type}(r:Enc α)(Q:VK)(as:List α)(H:Hp):Prop:=∀ v H',Xr H H'->rE K OO r H' v as->Q v H'
noncomputable def EvL {α:Type}(te:TE)(r:Enc α)(m:Rs (List α)):Prop:=∀ H Q,W OO H->S.p (hid H OO)->PZ Er (FL K OO r Q) H m->te σ H Q
end
section
variable {K:PySem.W.Frag}{Er:Exc->Hp->Prop}{S:SC}{OO OO' OO2:List (List Xy)}{σ:St}{α β γ:Type}
theorem FS.tr {r:Enc α}{Q:VK}:∀a H H',Xr H H'->FS K OO r Q a H->FS K OO r Q a H':=λa H H' s h v H2 s2 q=>h v H2 (s.trans s2) q
theorem FL.tr {r:Enc α}{Q:VK}:∀a H H',Xr H H'->FL K OO r Q a H->FL K OO r Q a H':=λa H H' s h v H2 s2 q=>h v H2 (s.trans s2) q
theorem PZ.run {F:β->Hp->Prop}{f:α->Rs β}{H H':Hp}{a:α}{m:Rs α}(hm:m= .ok a)(hF:∀b H H',Xr H H'->F b H->F b H')(s:Xr H H')(P:PZ Er F H (m.bind f)):PZ Er F H' (f a):=by
 subst hm
 have P':PZ Er F H (f a):=P
 revert P'
 cases f a with
 |bad=>exact λz=>z
 |err x=>exact λz H2 s2=>z H2 (s.trans s2)
 |ok b=>exact λz=>hF b H H' s z
theorem EvS.run {te:TE}{r:Enc α}{m:Rs α}(he:EvS K Er S OO σ te r m){H:Hp}{Q:VK}(w:W OO H)(s:S.p (hid H OO)){f:α->Rs β}{F:β->Hp->Prop}(hF:∀b H H',Xr H H'->F b H->F b H')(P:PZ Er F H (m.bind f))
  (hk:∀a v H',Xr H H'->W OO H'->S.p (hid H' OO)->r K (hid H' OO) v a->PZ Er F H' (f a)->Q v H'):te σ H Q:=by
 refine he H Q w s ?_
 cases e:m with
 |bad=>rw[e] at P;exact P
 |err x=>rw[e] at P;exact P
 |ok a=>exact λv H' s' hr=>hk a v H' s' (w.keep s') (S.mono _ _ (Xh s') s) hr (PZ.run e hF s' P)
theorem EvL.run {te:TE}{r:Enc α}{m:Rs (List α)}(he:EvL K Er S OO σ te r m){H:Hp}{Q:VK}(w:W OO H)(s:S.p (hid H OO)){f:List α->Rs β}{F:β->Hp->Prop}(hF:∀b H H',Xr H H'->F b H->F b H')(P:PZ Er F H (m.bind f))
  (hk:∀a v H',Xr H H'->W OO H'->S.p (hid H' OO)->rE K OO r H' v a->PZ Er F H' (f a)->Q v H'):te σ H Q:=by
 refine he H Q w s ?_
 cases e:m with
 |bad=>rw[e] at P;exact P
 |err x=>rw[e] at P;exact P
 |ok a=>exact λv H' s' hr=>hk a v H' s' (w.keep s') (S.mono _ _ (Xh s') s) hr (PZ.run e hF s' P)
theorem PZ.imp {F G:β->Hp->Prop}{H:Hp}{m:Rs β}(P:PZ Er F H m)(h:∀b,m= .ok b->F b H->G b H):PZ Er G H m:=by
 cases m with
 |bad=>exact P
 |err x=>exact P
 |ok b=>exact h b rfl P
theorem EvS.toB {te:TE}{r:Enc α}[z:MonoE r]{m:Rs α}(he:EvS K Er S OO σ te r m):EvB K Er S OO σ te r m:=λH Q w s P=>he H Q w s (P.imp λb _ h v H' s' q=>h v H' s' (z.mono Xn q))
theorem EvS.ev {te:TE}{r:Enc α}{m:Rs α}(he:EvS K Er S OO σ te r m):Ev K Er S OO OO σ te (oF r) m:=λH Q w s P=>he H Q w s (P.imp λb _ h v H' s' q=>
 h v [] H' s' (w.keep s').nil (by rw[Z0];exact Xh s') ⟨rfl,by rw[Z0];exact q⟩)
theorem EvB.sh {te:TE}{r:Enc α}[z:FlatE r]{m:Rs α}(he:EvB K Er S OO σ te r m):EvS K Er S OO σ te r m:=λH Q w s P=>he H Q w s (P.imp λb _ h v H' s' q=>h v H' s' (z.flat (w.keep s').i q))
theorem Ev.sh {te:TE}{o:OE α}{r:Enc α}[z:FrzC o r]{m:Rs α}(he:Ev K Er S OO OO σ te o m):EvS K Er S OO σ te r m:=λH Q w s P=>he.frz H Q w s (P.imp λb _ h v C H' s' w' m' q=>by
 obtain⟨rfl,q⟩:=q
 rw[Z0] at q
 exact h v H' s' q)
theorem Xi {r:Enc α}{v:V}{a:α}(i:Nat)(hσ:σ[i]?=some (some v))(h:∀x,S.p x->r K x v a):EvS K Er S OO σ (F5 i) r (.ok a):=λH Q w s P=>⟨v,hσ,P v H (Xr.refl _) (h _ s)⟩
theorem EvS.ls {te:TE}{r:Enc α}{m:Rs (List α)}(he:EvS K Er S OO σ te (rV r) m):EvL K Er S OO σ te r m:=λH Q w s P=>he H Q w s (P.imp λb _ h v H' s' r9=>by obtain⟨p,xs,e,q,pr⟩:=r9;exact h v H' s' ⟨p,xs,e,Xn _ _ q,pr⟩)
theorem EvB.ls {te:TE}{r:Enc α}[z:FlatE r]{m:Rs (List α)}(he:EvB K Er S OO σ te (rV r) m):EvL K Er S OO σ te r m:=λH Q w s P=>he H Q w s (P.imp λb _ h v H' s' r9=>by obtain⟨p,xs,e,q,pr⟩:=r9;exact h v H' s' ⟨p,xs,e,q,Paired.imp2 (λ_ _ z'=>z.flat (w.keep s').i z') pr⟩)
theorem Ev.ls {te:TE}{r:Enc α}[z:MonoE r]{m:Rs (List α)}(he:Ev K Er S OO OO σ te (oL (oF r)) m):EvL K Er S OO σ te r m:=he.sh.ls
noncomputable def atR (as:List α)(i:Int):Rs α:=match atI as i with
 |some a=>.ok a
 |none=>.bad
theorem Gw {as:List α}{i:Int}{a:α}(h:atR as i= .ok a):atI as i=some a:=by
 unfold atR at h;split at h
 ·cases h;assumption
 ·cases h
theorem Gy {as:List α}{i:Int}{x:Exc}:atR as i≠ .err x:=by unfold atR;split<;> exact λz=>nomatch z
theorem Jp {F:V->α->Prop}{xs:List V}{as:List α}{i:Int}{a:α}(p:Paired F xs as)(h:atI as i=some a):∃x,atI xs i=some x/\F x a:=by
 unfold atI at h⊢
 rw[Paired.len p]
 cases e:ixN as.length i with
 |none=>rw[e] at h;cases h
 |some j=>
  rw[e] at h
  obtain⟨x,h1,h2⟩:=Paired.getR p h
  exact⟨x,h1,h2⟩
theorem PZ.okOf {F:β->Hp->Prop}{H:Hp}{m:Rs β}(he:∀x,m≠ .err x)(P:PZ Er F H m):∃b,m= .ok b/\F b H:=by
 cases m with
 |bad=>exact P.elim
 |err x=>exact absurd rfl (he x)
 |ok b=>exact⟨b,rfl,P⟩
theorem XG {ta tb:TE}{r:Enc α}[z:MonoE r]{ma:Rs (List α)}{mb:Rs Int}(ha:EvB K Er S OO σ ta (rV r) ma)(hb:EvB K Er S OO σ tb Xa mb):EvB K Er S OO σ (tOp (HF K) ta tb) r (ma.bind λas=>mb.bind λi=>atR as i):=λH Q w s P=>
 ha.run w s FB.tr P λa x H1 s1 w1 q1 ⟨p,xs,e,q,pr⟩ P1=>hb.run w1 q1 FB.tr P1 λb y H2 s2 w2 q2 r2 P2=>by
  obtain⟨c,hc,P3⟩:=P2.okOf λx=>Gy
  obtain⟨u,h1,h2⟩:=Jp pr (Gw hc)
  exact⟨p,xs,b,u,e,r2,SqL.of (s2 _ _ q),h1,P3 u H2 (Xr.refl _) (z.mono s2 h2)⟩
theorem Ii {ta tb:TE}{r:Enc α}[z:MonoE r]{ma:Rs (List α)}{mb:Rs Int}(ha:EvL K Er S OO σ ta r ma)(hb:EvB K Er S OO σ tb Xa mb):EvS K Er S OO σ (tOp (HF K) ta tb) r (ma.bind λas=>mb.bind λi=>atR as i):=λH Q w s P=>
 ha.run w s FS.tr P λa x H1 s1 w1 q1 ⟨p,xs,e,q,pr⟩ P1=>hb.run w1 q1 FS.tr P1 λb y H2 s2 w2 q2 r2 P2=>by
  obtain⟨c,hc,P3⟩:=P2.okOf λx=>Gy
  obtain⟨u,h1,h2⟩:=Jp pr (Gw hc)
  exact⟨p,xs,b,u,e,r2,SqL.of (s2 _ _ q),h1,P3 u H2 (Xr.refl _) (z.mono (Xh s2) h2)⟩
theorem DX {ta:TE}{r:Enc α}{q:Enc β}{m:Rs (α×β)}(ha:EvB K Er S OO σ ta (rP2 r q) m):EvB K Er S OO σ (tOp (E1 K) ta (tC (.int 0))) r (m.bind λp=>.ok p.1):=λH Q w s P=>
 ha.run w s FB.tr P λa x H1 s1 w1 q1 r9 P1=>by obtain⟨p,x,y,e,q,h1,h2⟩:=r9;exact⟨p,_,0,x,e,rfl,SqT.of q,rfl,P1 _ H1 (Xr.refl _) h1⟩
theorem UE {ta:TE}{r:Enc α}{q:Enc β}{m:Rs (α×β)}(ha:EvB K Er S OO σ ta (rP2 r q) m):EvB K Er S OO σ (tOp (E1 K) ta (tC (.int 1))) q (m.bind λp=>.ok p.2):=λH Q w s P=>
 ha.run w s FB.tr P λa x H1 s1 w1 q1 r9 P1=>by obtain⟨p,x,y,e,q,h1,h2⟩:=r9;exact⟨p,_,1,y,e,rfl,SqT.of q,rfl,P1 _ H1 (Xr.refl _) h2⟩
theorem K8 {ta:TE}{r:Enc α}{q:Enc β}{m:Rs (α×β)}(ha:EvS K Er S OO σ ta (rP2 r q) m):EvS K Er S OO σ (tOp (E1 K) ta (tC (.int 0))) r (m.bind λp=>.ok p.1):=λH Q w s P=>
 ha.run w s FS.tr P λa x H1 s1 w1 q1 r9 P1=>by obtain⟨p,x,y,e,q,h1,h2⟩:=r9;exact⟨p,_,0,x,e,rfl,SqT.of (Xn _ _ q),rfl,P1 _ H1 (Xr.refl _) h1⟩
theorem ET {ta:TE}{r:Enc α}{q:Enc β}{m:Rs (α×β)}(ha:EvS K Er S OO σ ta (rP2 r q) m):EvS K Er S OO σ (tOp (E1 K) ta (tC (.int 1))) q (m.bind λp=>.ok p.2):=λH Q w s P=>
 ha.run w s FS.tr P λa x H1 s1 w1 q1 r9 P1=>by obtain⟨p,x,y,e,q,h1,h2⟩:=r9;exact⟨p,_,1,y,e,rfl,SqT.of (Xn _ _ q),rfl,P1 _ H1 (Xr.refl _) h2⟩
theorem Qb {ta:TE}{r:Enc α}{m:Rs (List α)}(ha:EvB K Er S OO σ ta (rV r) m):EvB K Er S OO σ (tCB (DZ K) (XO ta Jf)) Xa (m.bind λas=>.ok (as.length:Int)):=λH Q w s P=>
 ha.run w s FB.tr P λa x H1 s1 w1 q1 r9 P1=>by obtain⟨p,xs,e,q,pr⟩:=r9;exact⟨p,xs,by rw[e], .inl (SqL.of q),P1 _ H1 (Xr.refl _) (by rw[Paired.len pr];rfl)⟩
theorem HK {r:Enc α}[z:MonoE r]{xs:List V}{as:List α}{H:Hp}{Q:VK}(w:W OO H)(pr:Paired (r K (hid H OO)) xs as)(P:FO K OO OO (oL (oF r)) Q as H):∀p,H p=none->Q (.ref p) (upd H p (.lst xs)):=λp hp=>by
 have hn:=Jl (OO:=OO) hp (o:=.lst xs)
 refine P (.ref p) [(p, .lst xs)] _ (Xz hp _) (w.new hp rfl) hn ?_
 refine⟨p,xs,List.replicate as.length [],rfl,(P3.of (Paired.imp2 (λ_ _ h=>z.mono hn h) pr)).imp λ_ _ _ h=>h,by rw[Y9]⟩
theorem Paired.take' {F:α->β->Prop}:∀{l:List α}{m:List β} (n:Nat),Paired F l m->Paired F (l.take n) (m.take n)
 |_,_,0,_=>.nil
 |_,_,_+1, .nil=>.nil
 |_,_,n+1, .cons r t=>.cons r (Paired.take' n t)
theorem Paired.drop' {F:α->β->Prop}:∀{l:List α}{m:List β} (n:Nat),Paired F l m->Paired F (l.drop n) (m.drop n)
 |_,_,0,h=>h
 |_,_,_+1, .nil=>.nil
 |_,_,n+1, .cons _ t=>Paired.drop' n t
theorem Paired.rev' {F:α->β->Prop}:∀{l:List α}{m:List β},Paired F l m->Paired F l.reverse m.reverse
 |_,_, .nil=>.nil
 |_,_, .cons r t=>by rw[List.reverse_cons,List.reverse_cons];exact Paired.app (Paired.rev' t) (.cons r .nil)
theorem Paired.rep' {F:α->β->Prop}{l:List α}{m:List β}(h:Paired F l m):∀n:Nat,Paired F (List.replicate n l).flatten (List.replicate n m).flatten
 |0=>.nil
 |n+1=>by simp only[List.replicate_succ,List.flatten_cons];exact Paired.app h (Paired.rep' h n)
noncomputable def Ue (as:List α)(lo hi:Option Int):List α:=(as.drop (HT.sIx as.length 0 lo)).take (HT.sIx as.length as.length hi-HT.sIx as.length 0 lo)
theorem VN {F:V->α->Prop}{xs:List V}{as:List α}(p:Paired F xs as)(lo hi:Option Int):Paired F (HP xs lo hi) (Ue as lo hi):=by
 unfold HP Ue;rw[Paired.len p];exact Paired.take' _ (Paired.drop' _ p)
noncomputable def FP (Q:Option Int->Hp->Prop)(a:Option Int)(H:Hp):Prop:=∀ H',Xr H H'->Q a H'
noncomputable def EvP (Er:Exc->Hp->Prop)(S:SC)(OO:List (List Xy))(σ:St)(t:TO)(m:Rs (Option Int)):Prop:=∀ H Q,W OO H->S.p (hid H OO)->PZ Er (FP Q) H m->t σ H Q
theorem EvP.run {t:TO}{m:Rs (Option Int)}(he:EvP Er S OO σ t m){H:Hp}{Q:Option Int->Hp->Prop}(w:W OO H)(s:S.p (hid H OO)){f:Option Int->Rs β}{F:β->Hp->Prop}(hF:∀b H H',Xr H H'->F b H->F b H')(P:PZ Er F H (m.bind f))
  (hk:∀a H',Xr H H'->W OO H'->S.p (hid H' OO)->PZ Er F H' (f a)->Q a H'):t σ H Q:=by
 refine he H Q w s ?_
 cases e:m with
 |bad=>rw[e] at P;exact P
 |err x=>rw[e] at P;exact P
 |ok a=>exact λH' s'=>hk a H' s' (w.keep s') (S.mono _ _ (Xh s') s) (PZ.run e hF s' P)
theorem Qu:EvP Er S OO σ DS (.ok none):=λH Q w s P=>P H (Xr.refl _)
theorem Qw {te:TE}{m:Rs Int}(h:EvB K Er S OO σ te Xa m):EvP Er S OO σ (IS te) (m.bind λi=>.ok (some i)):=λH Q w s P=>
 h.run w s (λ_ _ _ s h H2 s2=>h H2 (s.trans s2)) P λa v H1 s1 w1 q1 r1 P1=>⟨a,r1,P1 H1 (Xr.refl _)⟩
theorem Q6 {te:TE}{tl th:TO}{r:Enc α}[z:MonoE r]{m:Rs (List α)}{ml mh:Rs (Option Int)}(he:EvL K Er S OO σ te r m)(hl:EvP Er S OO σ tl ml)(hh:EvP Er S OO σ th mh):
  Ev K Er S OO OO σ (tSl (LE K) te tl th) (oL (oF r)) (m.bind λas=>ml.bind λlo=>mh.bind λhi=>.ok (Ue as lo hi)):=λH Q w s P=>
 he.run w s FO.tr P λas x H1 s1 w1 q1 ⟨p,xs,e,q,pr⟩ P1=>hl.run w1 q1 FO.tr P1 λlo H2 s2 w2 q2 P2=>hh.run w2 q2 FO.tr P2 λhi H3 s3 w3 q3 P3'=>
  ⟨p,xs,e,SqL.of (s3 _ _ (s2 _ _ q)),HK w3 (VN (Paired.imp2 (λ_ _ h=>z.mono ((Xh s2).trans (Xh s3)) h) pr) lo hi) P3'⟩
theorem Bl {ta:TE}{r:Enc α}{m:Rs (List α)}(ha:EvB K Er S OO σ ta (rL r) m):EvB K Er S OO σ (tCB (DZ K) (XO ta Jf)) Xa (m.bind λas=>.ok (as.length:Int)):=λH Q w s P=>
 ha.run w s FB.tr P λa x H1 s1 w1 q1 r9 P1=>by obtain⟨p,xs,e,q,pr⟩:=r9;exact⟨p,xs,by rw[e], .inl q,P1 _ H1 (Xr.refl _) (by rw[Paired.len pr];rfl)⟩
theorem ED {ta tb:TE}{ma:Rs (List Int)}{mb:Rs Int}(ha:EvB K Er S OO σ ta (rL Xa) ma)(hb:EvB K Er S OO σ tb Xa mb):EvB K Er S OO σ (tOp (HF K) ta tb) Xa (ma.bind λas=>mb.bind λi=>atR as i):=λH Q w s P=>
 ha.run w s FB.tr P λa x H1 s1 w1 q1 ⟨p,xs,e,q,pr⟩ P1=>hb.run w1 q1 FB.tr P1 λb y H2 s2 w2 q2 r2 P2=>by
  obtain⟨c,hc,P3⟩:=P2.okOf λx=>Gy
  obtain⟨u,h1,h2⟩:=Jp pr (Gw hc)
  exact⟨p,xs,b,u,e,r2,s2.seq q,h1,P3 u H2 (Xr.refl _) h2⟩
theorem FU {te:TE}{tl th:TO}{m:Rs (List Int)}{ml mh:Rs (Option Int)}(he:EvB K Er S OO σ te (rL Xa) m)(hl:EvP Er S OO σ tl ml)(hh:EvP Er S OO σ th mh):
  Ev K Er S OO OO σ (tSl (LE K) te tl th) (oL (oF Xa)) (m.bind λas=>ml.bind λlo=>mh.bind λhi=>.ok (Ue as lo hi)):=λH Q w s P=>
 he.run w s FO.tr P λas x H1 s1 w1 q1 ⟨p,xs,e,q,pr⟩ P1=>hl.run w1 q1 FO.tr P1 λlo H2 s2 w2 q2 P2=>hh.run w2 q2 FO.tr P2 λhi H3 s3 w3 q3 P3'=>
  ⟨p,xs,e,s3.seq (s2.seq q),HK w3 (VN (Paired.imp2 (λ_ _ h=>h) pr) lo hi) P3'⟩
noncomputable def VG (as bs:List α):Rs (List α):=chk (as.length+bs.length<=sizeLine) (.ok (as++bs))
theorem Zt {ta tb:TE}{r:Enc α}[z:MonoE r]{ma mb:Rs (List α)}(ha:EvL K Er S OO σ ta r ma)(hb:EvL K Er S OO σ tb r mb):Ev K Er S OO OO σ (tOp LZ ta tb) (oL (oF r)) (ma.bind λas=>mb.bind λbs=>VG as bs):=λH Q w s P=>
 ha.run w s FO.tr P λas x H1 s1 w1 q1 ⟨p,xs,e,q,pr⟩ P1=>hb.run w1 q1 FO.tr P1 λbs y H2 s2 w2 q2 ⟨p',ys,e',q',pr'⟩ P2=>by
  obtain⟨c,hc,P3⟩:=P2.okOf λx=>Qa
  obtain⟨h1,h2⟩:=Zm hc
  cases h2
  exact⟨p,p',xs,ys,e,e',s2 _ _ q,q',by rw[Paired.len pr,Paired.len pr'];exact h1,HK w2 (Paired.app (Paired.imp2 (λ_ _ h=>z.mono (Xh s2) h) pr) pr') P3⟩
noncomputable def CC (as:List α)(n:Int):Rs (List α):=chk (-(2^63)<=n/\n<2^63/\as.length*n.toNat<=sizeLine) (.ok (List.replicate n.toNat as).flatten)
theorem GJ {ta tb:TE}{r:Enc α}[z:MonoE r]{ma:Rs (List α)}{mb:Rs Int}(ha:EvL K Er S OO σ ta r ma)(hb:EvB K Er S OO σ tb Xa mb):Ev K Er S OO OO σ (tOp Mq ta tb) (oL (oF r)) (ma.bind λas=>mb.bind λn=>CC as n):=λH Q w s P=>
 ha.run w s FO.tr P λas x H1 s1 w1 q1 ⟨p,xs,e,q,pr⟩ P1=>hb.run w1 q1 FO.tr P1 λn y H2 s2 w2 q2 r2 P2=>by
  obtain⟨c,hc,P3⟩:=P2.okOf λx=>Qa
  obtain⟨⟨h0,h1,h3⟩,h2⟩:=Zm hc
  cases h2
  exact⟨p,n,xs,e,r2,s2 _ _ q,h0,h1,by rw[Paired.len pr];exact h3,HK w2 (Paired.rep' (Paired.imp2 (λ_ _ h=>z.mono (Xh s2) h) pr) _) P3⟩
noncomputable def Q2 (lo hi:Int):List Int:=(List.range (hi-lo).toNat).map λ(i:Nat)=>lo+(i:Int)
theorem V3 {o:OE α}:Ev K Er S OO OO σ (LD Jf) (oL o) (.ok []):=λH Q w s P=>⟨Nat.zero_le _,λp hp=>P (.ref p) [(p, .lst [])] _ (Xz hp _) (w.new hp rfl) (Jl hp) ⟨p,[],[],rfl, .nil,rfl⟩⟩
noncomputable def FA {α:Type}(K:PySem.W.Frag)(OO:List (List Xy))(r:Enc α)(Q:List V->Hp->Prop)(as:List α)(H:Hp):Prop:=∀ vs H',Xr H H'->Paired (r K (hid H' OO)) vs as->Q vs H'
noncomputable def EvA {α:Type}(K:PySem.W.Frag)(Er:Exc->Hp->Prop)(S:SC)(OO:List (List Xy))(σ:St)(t:TA)(r:Enc α)(m:Rs (List α)):Prop:=∀ H Q,W OO H->S.p (hid H OO)->PZ Er (FA K OO r Q) H m->t σ H Q
theorem YL {r:Enc α}:EvA K Er S OO σ Jf r (.ok []):=λH Q w s P=>P [] H (Xr.refl _) .nil
theorem Xm {te:TE}{t:TA}{r:Enc α}[z:MonoE r]{m:Rs α}{n:Rs (List α)}(he:EvS K Er S OO σ te r m)(ht:EvA K Er S OO σ t r n):EvA K Er S OO σ (XO te t) r (m.bind λa=>n.bind λas=>.ok (a::as)):=λH Q w s P=>
 he.run w s (λb H H' s h vs H2 s2 p=>h vs H2 (s.trans s2) p) P λa x H1 s1 w1 q1 r1 P1=>by
  refine ht H1 _ w1 q1 ?_
  cases e:n with
  |bad=>rw[e] at P1;exact P1
  |err x=>rw[e] at P1;exact P1
  |ok as=>rw[e] at P1;exact λvs H2 s2 p=>P1 (x::vs) H2 s2 (.cons (z.mono (Xh s2) r1) p)
theorem Zi {t:TA}{r:Enc α}[z:MonoE r]{m:Rs (List α)}(h:EvA K Er S OO σ t r m):Ev K Er S OO OO σ (LD t) (oL (oF r)) (m.bind λas=>chk (as.length<=sizeLine) (.ok as)):=λH Q w s P=>by
 refine h H _ w s ?_
 cases e:m with
 |bad=>rw[e] at P;exact P
 |err x=>rw[e] at P;exact P
 |ok as=>
  rw[e] at P
  intro vs H1 s1 p
  obtain⟨c,hc,P3⟩:=PZ.okOf (λx=>Qa) (show PZ Er _ H (chk (as.length<=sizeLine) (.ok as)) from P)
  obtain⟨h1,h2⟩:=Zm hc
  cases h2
  exact⟨by rw[Paired.len p];exact h1,HK (w.keep s1) p (FO.tr _ _ _ s1 P3)⟩
theorem Ye {ta tb:TE}{r:Enc α}{q:Enc β}[z:MonoE r][y:MonoE q]{ma:Rs α}{mb:Rs β}(ha:EvS K Er S OO σ ta r ma)(hb:EvS K Er S OO σ tb q mb):EvS K Er S OO σ (HM (XO ta (XO tb Jf))) (rP2 r q) (ma.bind λa=>mb.bind λb=>.ok (a,b)):=λH Q w s P=>
 ha.run w s FS.tr P λa x H1 s1 w1 q1 r1 P1=>hb.run w1 q1 FS.tr P1 λb y' H2 s2 w2 q2 r2 P2=>
  ⟨by show 2<=sizeLine;decide,λp hp=>P2 _ _ (Xz hp _) ⟨p,x,y',rfl,Zv w2 hp,z.mono ((Xh s2).trans (Xh (Xz hp _))) r1,y.mono (Xh (Xz hp _)) r2⟩⟩
theorem Go {ta tb tc:TE}{r:Enc α}{q:Enc β}{t:Enc γ}[z:MonoE r][y:MonoE q][x:MonoE t]{ma:Rs α}{mb:Rs β}{mc:Rs γ}(ha:EvS K Er S OO σ ta r ma)(hb:EvS K Er S OO σ tb q mb)(hc:EvS K Er S OO σ tc t mc):
  EvS K Er S OO σ (HM (XO ta (XO tb (XO tc Jf)))) (rP3 r q t) (ma.bind λa=>mb.bind λb=>mc.bind λc=>.ok (a,b,c)):=λH Q w s P=>
 ha.run w s FS.tr P λa x' H1 s1 w1 q1 r1 P1=>hb.run w1 q1 FS.tr P1 λb y' H2 s2 w2 q2 r2 P2=>hc.run w2 q2 FS.tr P2 λc z' H3 s3 w3 q3 r3 P3=>
  ⟨by show 3<=sizeLine;decide,λp hp=>P3 _ _ (Xz hp _) ⟨p,x',y',z',rfl,Zv w3 hp,z.mono (((Xh s2).trans (Xh s3)).trans (Xh (Xz hp _))) r1,y.mono ((Xh s3).trans (Xh (Xz hp _))) r2,x.mono (Xh (Xz hp _)) r3⟩⟩
end
section
variable {K:PySem.W.Frag}{Er:Exc->Hp->Prop}{S:SC}{OO OO' OO2:List (List Xy)}{σ:St}{α β γ ρ ι:Type}{α1 α2 α3 α4 α5 α6:Type}
noncomputable def noE (m:Rs α):Rs α:=match m with
 | .ok a=>.ok a
 |_=>.bad
theorem UT {m:Rs α}{a:α}(h:noE m= .ok a):m= .ok a:=by
 cases m with
 |ok b=>exact h
 |bad=>cases h
 |err x=>cases h
theorem VX {m:Rs α}{x:Exc}:noE m≠ .err x:=by cases m<;> exact λz=>nomatch z
noncomputable def FF (K:PySem.W.Frag)(o:OE α)(Q:VK)(a:α)(H:Hp):Prop:=∀ v C H',W [C] H'->Xr H (hid H' [C])->o K (hid H' [C]) v a C->Q v H'
noncomputable def sp1 (r1:Enc α1)(o:OE ρ)(f:α1->Rs ρ)(K:PySem.W.Frag):Sp:=λvs H Q _=>∃ v1 a1 b,vs=[v1]/\r1 K H v1 a1/\f a1= .ok b/\FF K o Q b H
noncomputable def sp2 (r1:Enc α1)(r2:Enc α2)(o:OE ρ)(f:α1->α2->Rs ρ)(K:PySem.W.Frag):Sp:=λvs H Q _=>∃ v1 v2 a1 a2 b,vs=[v1,v2]/\r1 K H v1 a1/\r2 K H v2 a2/\f a1 a2= .ok b/\FF K o Q b H
noncomputable def sp3 (r1:Enc α1)(r2:Enc α2)(r3:Enc α3)(o:OE ρ)(f:α1->α2->α3->Rs ρ)(K:PySem.W.Frag):Sp:=λvs H Q _=>∃ v1 v2 v3 a1 a2 a3 b,vs=[v1,v2,v3]/\r1 K H v1 a1/\r2 K H v2 a2/\r3 K H v3 a3/\f a1 a2 a3= .ok b/\FF K o Q b H
noncomputable def sp4 (r1:Enc α1)(r2:Enc α2)(r3:Enc α3)(r4:Enc α4)(o:OE ρ)(f:α1->α2->α3->α4->Rs ρ)(K:PySem.W.Frag):Sp:=λvs H Q _=>∃ v1 v2 v3 v4 a1 a2 a3 a4 b,vs=[v1,v2,v3,v4]/\r1 K H v1 a1/\r2 K H v2 a2/\r3 K H v3 a3/\r4 K H v4 a4/\f a1 a2 a3 a4= .ok b/\FF K o Q b H
theorem Ll {C:List Xy}{H H':Hp}(w:W OO H)(w':W [C] H')(m':Xr H (hid H' [C])):W (C::OO) H'/\Xr (hid H OO) (hid H' (C::OO))/\VL (hid H' [C]) (hid H' (C::OO)):=by
 have s:Xr H H':=m'.trans Xn
 have f1:fl [C]=C.map (·.1):=by simp[fl]
 have hd:∀b,b∈fl OO->b∉C.map (·.1):=λb hb hc=>by
  obtain⟨u,hu⟩:=G5 hb
  exact(XI (m' _ _ (w.tr _ hu))).2 (by rw[f1];exact hc)
 have w2:W (C::OO) H':=by
  refine⟨λc hc=>?_,?_,λc hc=>?_⟩
  ·rw[List.flatten_cons,List.mem_append] at hc
   rcases hc with hc |hc
   ·exact w'.tr c (by simp[hc])
   ·exact s _ _ (w.tr c hc)
  ·rw[XD]
   refine List.nodup_append.mpr ⟨by rw[←f1];exact w'.nd,w.nd,λa ha b hb e=>?_⟩
   subst e;exact hd a hb ha
  ·rw[List.flatten_cons,List.mem_append] at hc
   rcases hc with hc |hc
   ·exact w'.mu c (by simp[hc])
   ·exact w.mu c hc
 refine⟨w2,λb u q=>?_,λb u q i=>?_⟩
 ·obtain⟨q1,q2⟩:=XI q
  obtain⟨q3,q4⟩:=XI (m' _ _ q1)
  refine YM q3 ?_
  rw[XD,List.mem_append]
  exact λz=>z.elim (λz=>q4 (by rw[f1];exact z)) q2
 ·exact w2.i b u (XI q).1 i
theorem Up {o:OE α}[z:FlatO o]{Q:VK}{b:α}{H:Hp}(w:W OO H)(P:FO K OO OO o Q b H):FF K o Q b H:=λv C H' w' m' ho=>by
 obtain⟨w2,h2,h3⟩:=Ll w w' m'
 exact P v C H' (m'.trans Xn) w2 h2 (z.flat h3 ho)
theorem YG {ta:TE}{r1:Enc α1}{o:OE ρ}[FlatO o]{f:α1->Rs ρ}{ma:Rs α1}(ha:EvB K Er S OO σ ta r1 ma):Ev K Er S OO OO σ (U4 (sp1 r1 o f K) [] E0 (XO ta Jf)) o (ma.bind λa=>noE (f a)):=λH Q w s P=>
 ha.run w s FO.tr P λa x H1 s1 w1 q1 r1 P1=>by
  obtain⟨b,hb,P2⟩:=P1.okOf λx=>VX
  exact⟨x,a,b,rfl,r1,UT hb,Up w1 P2⟩
theorem YF {ta tb:TE}{r1:Enc α1}{r2:Enc α2}[z1:MonoE r1]{o:OE ρ}[FlatO o]{f:α1->α2->Rs ρ}{ma:Rs α1}{mb:Rs α2}(ha:EvB K Er S OO σ ta r1 ma)(hb:EvB K Er S OO σ tb r2 mb):
  Ev K Er S OO OO σ (U4 (sp2 r1 r2 o f K) [] E0 (XO ta (XO tb Jf))) o (ma.bind λa=>mb.bind λb=>noE (f a b)):=λH Q w s P=>
 ha.run w s FO.tr P λa x H1 s1 w1 q1 r1 P1=>hb.run w1 q1 FO.tr P1 λb y H2 s2 w2 q2 r2 P2=>by
  obtain⟨c,hc,P3⟩:=P2.okOf λx=>VX
  exact⟨x,y,a,b,c,rfl,z1.mono s2 r1,r2,UT hc,Up w2 P3⟩
theorem Y3 {ta tb tc:TE}{r1:Enc α1}{r2:Enc α2}{r3:Enc α3}[z1:MonoE r1][z2:MonoE r2]{o:OE ρ}[FlatO o]{f:α1->α2->α3->Rs ρ}{ma:Rs α1}{mb:Rs α2}{mc:Rs α3}(ha:EvB K Er S OO σ ta r1 ma)(hb:EvB K Er S OO σ tb r2 mb)(hc:EvB K Er S OO σ tc r3 mc):
  Ev K Er S OO OO σ (U4 (sp3 r1 r2 r3 o f K) [] E0 (XO ta (XO tb (XO tc Jf)))) o (ma.bind λa=>mb.bind λb=>mc.bind λc=>noE (f a b c)):=λH Q w s P=>
 ha.run w s FO.tr P λa x H1 s1 w1 q1 r1 P1=>hb.run w1 q1 FO.tr P1 λb y H2 s2 w2 q2 r2 P2=>hc.run w2 q2 FO.tr P2 λc z H3 s3 w3 q3 r3 P3=>by
  obtain⟨d,hd,P4⟩:=P3.okOf λx=>VX
  exact⟨x,y,z,a,b,c,d,rfl,z1.mono (s2.trans s3) r1,z2.mono s3 r2,r3,UT hd,Up w3 P4⟩
theorem UK {ta tb tc td:TE}{r1:Enc α1}{r2:Enc α2}{r3:Enc α3}{r4:Enc α4}[z1:MonoE r1][z2:MonoE r2][z3:MonoE r3]{o:OE ρ}[FlatO o]{f:α1->α2->α3->α4->Rs ρ}{ma:Rs α1}{mb:Rs α2}{mc:Rs α3}{md:Rs α4}(ha:EvB K Er S OO σ ta r1 ma)(hb:EvB K Er S OO σ tb r2 mb)(hc:EvB K Er S OO σ tc r3 mc)(hd:EvB K Er S OO σ td r4 md):
  Ev K Er S OO OO σ (U4 (sp4 r1 r2 r3 r4 o f K) [] E0 (XO ta (XO tb (XO tc (XO td Jf))))) o (ma.bind λa=>mb.bind λb=>mc.bind λc=>md.bind λd=>noE (f a b c d)):=λH Q w s P=>
 ha.run w s FO.tr P λa x H1 s1 w1 q1 r1 P1=>hb.run w1 q1 FO.tr P1 λb y H2 s2 w2 q2 r2 P2=>hc.run w2 q2 FO.tr P2 λc z H3 s3 w3 q3 r3 P3=>hd.run w3 q3 FO.tr P3 λd u H4 s4 w4 q4 r4 P4=>by
  obtain⟨e,he,P5⟩:=P4.okOf λx=>VX
  exact⟨x,y,z,u,a,b,c,d,e,rfl,z1.mono (s2.trans (s3.trans s4)) r1,z2.mono (s3.trans s4) r2,z3.mono s4 r3,r4,UT he,Up w4 P5⟩
structure Jn (γ ι:Type) where
 oo:ι->List (List Xy)
 ss:ι->St
 sc:γ->ι->SC
inductive Ctl (ρ γ:Type) where
 |ret (r:ρ) |nx (g:γ)
noncomputable def FTd (K:PySem.W.Frag)(o:OE ρ)(D:Ends)(r:ρ)(h:Hp):Prop:=∀ v C OO' H',W (C::OO') H'->Xr h (hid H' (C::OO'))->o K (hid H' (C::OO')) v r C->D.rt v H'
noncomputable def FNd (J:Jn γ ι)(D:Ends)(g:γ)(h:Hp):Prop:=∀ x H',W (J.oo x) H'->Xr h (hid H' (J.oo x))->(J.sc g x).p (hid H' (J.oo x))->D.nx (J.ss x) H'
noncomputable def FCd (K:PySem.W.Frag)(o:OE ρ)(J:Jn γ ι)(D:Ends)(c:Ctl ρ γ)(h:Hp):Prop:=match c with
 | .ret r=>FTd K o D r h
 | .nx g=>FNd J D g h
class FdOk (Fd:Ends->β->Hp->Prop):Prop where
 tr:∀D b h h',Xr h h'->Fd D b h->Fd D b h'
instance {o:OE ρ}:FdOk (FTd K o):=⟨λD b h h' s q v C O H' w m x=>q v C O H' w (s.trans m) x⟩
instance {J:Jn γ ι}:FdOk (FNd J):=⟨λD b h h' s q x H' w m y=>q x H' w (s.trans m) y⟩
instance {o:OE ρ}{J:Jn γ ι}:FdOk (FCd K o J):=⟨λD b h h' s q=>by
 cases b with
 |ret r=>exact λv C O H' w m x=>q v C O H' w (s.trans m) x
 |nx g=>exact λx H' w m y=>q x H' w (s.trans m) y⟩
theorem PZ.tr {F:β->Hp->Prop}(hF:∀b H H',Xr H H'->F b H->F b H'){H H':Hp}{m:Rs β}(s:Xr H H')(P:PZ Er F H m):PZ Er F H' m:=by
 cases m with
 |bad=>exact P
 |err x=>exact λH2 s2=>P H2 (s.trans s2)
 |ok b=>exact hF b H H' s P
noncomputable def Sv (Er:Exc->Hp->Prop)(S:SC)(OO:List (List Xy))(σ:St)(t:TS)(Fd:Ends->β->Hp->Prop)(m:Rs β):Prop:=∀ H D,W OO H->S.p (hid H OO)->PZ Er (Fd D) (hid H OO) m->t D σ H
variable {Fd:Ends->β->Hp->Prop}[fd:FdOk Fd]{u:TS}
theorem Ev.st {te:TE}{o:OE α}{m:Rs α}(he:Ev K Er S OO OO' σ te o m){H:Hp}{D:Ends}{Q:VK}(w:W OO H)(s:S.p (hid H OO)){f:α->Rs β}(P:PZ Er (Fd D) (hid H OO) (m.bind f))
  (hk:∀a v C H',W (C::OO') H'->S.p (hid H' (C::OO'))->o K (hid H' (C::OO')) v a C->PZ Er (Fd D) (hid H' (C::OO')) (f a)->Q v H'):te σ H Q:=by
 refine he H Q w s ?_
 cases m with
 |bad=>exact P
 |err x=>exact λH' s'=>P H' (Xn.trans s')
 |ok a=>exact λv C H' s' w' m' ho=>hk a v C H' w' (S.mono _ _ m' s) ho (PZ.tr (fd.tr D) m' P)
theorem EvB.st {te:TE}{r:Enc α}{m:Rs α}(he:EvB K Er S OO σ te r m){H:Hp}{D:Ends}{Q:VK}(w:W OO H)(s:S.p (hid H OO)){f:α->Rs β}(P:PZ Er (Fd D) (hid H OO) (m.bind f))
  (hk:∀a v H',Xr H H'->W OO H'->S.p (hid H' OO)->r K H' v a->PZ Er (Fd D) (hid H' OO) (f a)->Q v H'):te σ H Q:=by
 refine he H Q w s ?_
 cases m with
 |bad=>exact P
 |err x=>exact λH' s'=>P H' (Xn.trans s')
 |ok a=>exact λv H' s' hr=>hk a v H' s' (w.keep s') (S.mono _ _ (Xh s') s) hr (PZ.tr (fd.tr D) (Xh s') P)
theorem EvS.st {te:TE}{r:Enc α}{m:Rs α}(he:EvS K Er S OO σ te r m){H:Hp}{D:Ends}{Q:VK}(w:W OO H)(s:S.p (hid H OO)){f:α->Rs β}(P:PZ Er (Fd D) (hid H OO) (m.bind f))
  (hk:∀a v H',Xr H H'->W OO H'->S.p (hid H' OO)->r K (hid H' OO) v a->PZ Er (Fd D) (hid H' OO) (f a)->Q v H'):te σ H Q:=by
 refine he H Q w s ?_
 cases m with
 |bad=>exact P
 |err x=>exact λH' s'=>P H' (Xn.trans s')
 |ok a=>exact λv H' s' hr=>hk a v H' s' (w.keep s') (S.mono _ _ (Xh s') s) hr (PZ.tr (fd.tr D) (Xh s') P)
theorem EvT.st {tt:TT}{m:Rs Bool}(he:EvT Er S OO σ tt m){H:Hp}{D:Ends}{Q:Bool->Hp->Prop}(w:W OO H)(s:S.p (hid H OO)){f:Bool->Rs β}(P:PZ Er (Fd D) (hid H OO) (m.bind f))
  (hk:∀b H',W OO H'->S.p (hid H' OO)->PZ Er (Fd D) (hid H' OO) (f b)->Q b H'):tt σ H Q:=by
 refine he H Q w s ?_
 cases m with
 |bad=>exact P
 |err x=>exact λH' s'=>P H' (Xn.trans s')
 |ok a=>exact λH' s'=>hk a H' (w.keep s') (S.mono _ _ (Xh s') s) (PZ.tr (fd.tr D) (Xh s') P)
theorem set_set {OO:List (List Xy)}{k:Nat}{C:List Xy}:(OO.set k C).set k []=OO.set k []:=by simp
theorem MN {C:List Xy}{H:Hp}{k:Nat}(w:W (C::OO) H)(hk:k<OO.length):W (OO.set k C) H/\Xr (hid H (C::OO)) (hid H (OO.set k C)):=by
 have h1:=XF (OO:=OO) (k:=k) (C:=OO[k]) (by simp[hk])
 have h2:=XF (OO:=OO.set k C) (k:=k) (C:=C) (by simp[hk])
 rw[set_set] at h2
 have h3:(OO.set k C).flatten.Perm (C++(OO.set k []).flatten):=by simpa using h2.symm
 have h4:(C::OO).flatten.Perm (C++(OO[k]++(OO.set k []).flatten)):=by
  rw[List.flatten_cons];exact(by simpa using h1.symm:OO.flatten.Perm (OO[k]++(OO.set k []).flatten)).append_left C
 have h5:(C++(OO.set k []).flatten).Sublist (C++(OO[k]++(OO.set k []).flatten)):=List.Sublist.append (List.Sublist.refl _) (List.sublist_append_right _ _)
 have w1:W [C++(OO[k]++(OO.set k []).flatten)] H:=w.of (by simpa using h4.symm)
 have w2:W [C++(OO.set k []).flatten] H:=w1.sub (by simpa using h5)
 refine⟨w2.of (by simpa using h3),Zo (Xr.refl _) λb hb=>?_⟩
 obtain⟨o,ho⟩:=G5 hb
 exact Q4 (h4.mem_iff.mpr (h5.mem (h3.mem_iff.mp ho)))
theorem Ya {te:TE}{o:OE α}[MonoO o]{m:Rs α}{f:α->Rs β}(i k:Nat)(he:Ev K Er S OO OO' σ te o m)(hk:k<OO'.length)(hr:∀a v C,Sv Er (S.addO K o v a C) (OO'.set k C) (σ.set i (some v)) u Fd (f a)):Sv Er S OO σ (JC (Ei te (YU i)) u) Fd (m.bind f):=λH D w s P=>
 he.st w s P λa v C H' w' s' ho P'=>by
  obtain⟨w2,h2⟩:=MN w' hk
  exact hr a v C H' D w2 ⟨S.mono _ _ h2 s',MonoO.mono h2 ho⟩ (PZ.tr (fd.tr D) h2 P')
theorem Xw {te:TE}{r:Enc α}[MonoE r]{m:Rs α}{f:α->Rs β}(i:Nat)(he:EvS K Er S OO σ te r m)(hr:∀a v,Sv Er (S.add K r v a) OO (σ.set i (some v)) u Fd (f a)):Sv Er S OO σ (JC (Ei te (YU i)) u) Fd (m.bind f):=λH D w s P=>
 he.st w s P λa v H' s1 w' s' ho P'=>hr a v H' D w' ⟨s',ho⟩ P'
theorem XY {te:TE}{o:OE ρ}{m:Rs ρ}(he:Ev K Er S OO OO' σ te o m):Sv Er S OO σ (JC (LA te) u) (FTd K o) m:=λH D w s P=>
 he H _ w s (by
  cases m with
  |bad=>exact P
  |err x=>exact λH' s'=>P H' (Xn.trans s')
  |ok a=>exact λv C H' s' w' m' ho=>P v C OO' H' w' m' ho)
theorem B2 {J:Jn γ ι}{t:TS}{o:OE ρ}{m:Rs γ}(h:Sv Er S OO σ t (FNd J) m):Sv Er S OO σ t (FCd K o J) (m.bind λr=>.ok (.nx r)):=λH D w s P=>h H D w s (by
 cases m with
 |bad=>exact P
 |err x=>exact P
 |ok a=>exact P)
theorem XL {J:Jn γ ι}(x:ι)(g:γ)(h1:OO=J.oo x)(h2:σ=J.ss x)(h3:∀h,S.p h->(J.sc g x).p h):Sv Er S OO σ GU (FNd J) (.ok g):=λH D w s P=>by
 subst h1 h2
 exact P x H w (Xr.refl _) (h3 _ s)
theorem Ib {t:TS}:Sv Er S OO σ t Fd .bad:=λH D w s P=>P.elim
theorem Gj {o:OE ρ}{c:TT}{t1:TS}{mc:Rs Bool}{m1 m2:Rs ρ}(hc:EvT Er S OO σ c mc)(h1:Sv Er S OO σ t1 (FTd K o) m1)(h2:Sv Er S OO σ u (FTd K o) m2):Sv Er S OO σ (JC (HJ c t1 GU) u) (FTd K o) (mc.bind λb=>if b=true then m1 else m2):=λH D w s P=>
 hc.st (Fd:=FTd K o) w s P λb H' w' s' P'=>by
  cases b with
  |true=>rw[if_pos rfl] at P'⊢;exact h1 H' _ w' s' P'
  |false=>exact h2 H' D w' s' P'
theorem Cz {o:OE ρ}{J:Jn γ ι}{c:TT}{t1:TS}{mc:Rs Bool}{m1:Rs ρ}{m2:Rs (Ctl ρ γ)}(hc:EvT Er S OO σ c mc)(h1:Sv Er S OO σ t1 (FTd K o) m1)(h2:Sv Er S OO σ u (FCd K o J) m2):Sv Er S OO σ (JC (HJ c t1 GU) u) (FCd K o J) (mc.bind λb=>if b=true then m1.bind (λr=>.ok (.ret r)) else m2):=λH D w s P=>
 hc.st (Fd:=FCd K o J) w s P λb H' w' s' P'=>by
  cases b with
  |true=>
   rw[if_pos rfl] at P'⊢
   refine h1 H' _ w' s' ?_
   cases m1 with
   |bad=>exact P'
   |err x=>exact P'
   |ok a=>exact P'
  |false=>exact h2 H' D w' s' P'
theorem QZ {c:TT}{t1 t2:TS}{mc:Rs Bool}{m1 m2:Rs β}(hc:EvT Er S OO σ c mc)(h1:Sv Er S OO σ t1 Fd m1)(h2:Sv Er S OO σ t2 Fd m2):Sv Er S OO σ (HJ c t1 t2) Fd (mc.bind λb=>if b=true then m1 else m2):=λH D w s P=>
 hc.st w s P λb H' w' s' P'=>by
  cases b with
  |true=>rw[if_pos rfl] at P'⊢;exact h1 H' _ w' s' P'
  |false=>exact h2 H' D w' s' P'
theorem Z5 {J:Jn γ ι}{t:TS}{m:Rs γ}{f:γ->Rs β}(hb:Sv Er S OO σ t (FNd J) m)(hr:∀g x,Sv Er (J.sc g x) (J.oo x) (J.ss x) u Fd (f g)):Sv Er S OO σ (JC t u) Fd (m.bind f):=λH D w s P=>
 hb H _ w s (by
  cases m with
  |bad=>exact P
  |err x=>exact P
  |ok g=>exact λx H' w' m' q=>hr g x H' D w' q (PZ.tr (fd.tr D) m' P))
noncomputable def Jg (f:γ->Rs ρ):Ctl ρ γ->Rs ρ
 | .ret r=>.ok r
 | .nx g=>f g
theorem Sv.weak {S2:SC}{t:TS}{m:Rs β}(h:Sv Er S2 OO σ t Fd m)(hs:∀x,S.p x->S2.p x):Sv Er S OO σ t Fd m:=λH D w s P=>h H D w (hs _ s) P
theorem Ik {t:TS}{o:OE α}{r:Enc α}[z:FrzC o r][MonoE r]{v:V}{a:α}{C:List Xy}{m:Rs β}(k:Nat)(hk:OO[k]?=some C)(h:∀x,S.p x->o K x v a C)(hr:Sv Er (S.add K r v a) (OO.set k []) σ t Fd m):Sv Er S OO σ t Fd m:=λH D w s P=>by
 have hp:=XF hk
 have w1:W (C::OO.set k []) H:=w.of hp
 have hs:Xr (hid H OO) (hid H (OO.set k [])):=by
  rw[←Xx hp]
  exact Zo (Xr.refl _) λb hb=>by rw[XD];simp[hb]
 refine hr H D w1.tail ⟨S.mono _ _ hs s,z.frz (h _ s) hs λc hc=>YM (w1.cell c hc) ?_⟩ (PZ.tr (fd.tr D) hs P)
 have:=w1.nd
 rw[XD] at this
 exact λhb=>(List.nodup_append.mp this).2.2 c.1 (List.mem_map.mpr ⟨c,hc,rfl⟩) c.1 hb rfl
theorem Mp {C D C':List Xy}{H:Hp}{k:Nat}{p:Addr}{o:HO}(w:W (D::OO) H)(hk:OO[k]?=some C)(hp:p∈C.map (·.1))(hC:(C'.map (·.1)).Perm ((C++D).map (·.1)))(ht:∀c∈C',upd H p o c.1=some c.2)(hm:∀c∈C',IN c.2=true):
  W (OO.set k C') (upd H p o)/\hid (upd H p o) (OO.set k C')=hid H (D::OO):=by
 have hlt:k<OO.length:=by
  rcases Nat.lt_or_ge k OO.length with h |h
  ·exact h
  ·rw[List.getElem?_eq_none h] at hk;cases hk
 have h1:=XF hk
 have h2:=XF (OO:=OO.set k C') (k:=k) (C:=C') (by simp[hlt])
 rw[set_set] at h2
 have h3:(OO.set k C').flatten.Perm (C'++(OO.set k []).flatten):=by simpa using h2.symm
 have h4:(D::OO).flatten.Perm (D++(C++(OO.set k []).flatten)):=by
  rw[List.flatten_cons];exact(by simpa using h1.symm:OO.flatten.Perm (C++(OO.set k []).flatten)).append_left D
 have hfl:(fl (OO.set k C')).Perm (fl (D::OO)):=by
  unfold fl
  refine(h3.map _).trans (List.Perm.trans ?_ (h4.map _).symm)
  simp only[List.map_append]
  refine(hC.append_right _).trans ?_
  simp only[List.map_append]
  rw[←List.append_assoc]
  exact List.perm_append_comm.append_right _
 have nd:=w.nd
 refine⟨⟨λc hc=>?_,hfl.nodup_iff.mpr nd,λc hc=>?_⟩,?_⟩
 ·rcases List.mem_append.mp (h3.mem_iff.mp hc) with hc |hc
  ·exact ht c hc
  ·have hne:c.1≠p:=λe=>by
    have nd2:((D++(C++(OO.set k []).flatten)).map (·.1)).Nodup:=(h4.map _).nodup_iff.mp nd
    simp only[List.map_append] at nd2
    have nd3:=(List.nodup_append.mp nd2).2.1
    exact(List.nodup_append.mp nd3).2.2 p hp c.1 (List.mem_map.mpr ⟨c,hc,rfl⟩) e.symm
   rw[Xs hne]
   exact w.tr c (h4.mem_iff.mpr (by simp[hc]))
 ·rcases List.mem_append.mp (h3.mem_iff.mp hc) with hc |hc
  ·exact hm c hc
  ·exact w.mu c (h4.mem_iff.mpr (by simp[hc]))
 ·funext b
  unfold hid
  by_cases hb:b∈fl (D::OO)
  ·rw[if_pos hb,if_pos (hfl.mem_iff.mpr hb)]
  ·rw[if_neg hb,if_neg λz=>hb (hfl.mem_iff.mp z)]
   refine Xs λe=>hb ?_
   rw[e]
   obtain⟨c,hc,rfl⟩:=List.mem_map.mp hp
   exact Q4 (h4.mem_iff.mpr (by simp[hc]))
theorem YD {Cs:List (List Xy)}{D:List Xy}:(Cs++[D]).flatten=Cs.flatten++D:=by simp
theorem Qk {ta:TE}{o:OE α}[MonoO o]{m:Rs α}{f:List α->Rs β}{v:V}{as:List α}{C:List Xy}(i k:Nat)(hσ:σ[i]?=some (some v))(hk:OO[k]?=some C)(hk':OO'[k]?=some C)(h:∀x,S.p x->oL o K x v as C)(he:Ev K Er S OO OO' σ ta o m)
  (hr:∀a C',Sv Er (S.addO K (oL o) v (as++[a]) C') (OO'.set k C') σ u Fd (f (as++[a]))):Sv Er S OO σ (JC (Bb (tBM K "list" KW (F5 i) (XO ta Jf))) u) Fd (m.bind λa=>chk (as.length<sizeLine) (f (as++[a]))):=λH D w s P=>by
 obtain⟨p,xs,Cs,e,q,c⟩:=h _ s
 subst c
 have hH:H p=some (.lst xs):=w.tr (p, .lst xs) (List.mem_flatten.mpr ⟨_,List.mem_of_getElem? hk,List.mem_cons_self⟩)
 refine⟨v,hσ,by rw[e];exact .inl ⟨rfl,_,SqL.of hH⟩,he.st w s P λa y D' H' w' s' ho P'=>?_⟩
 obtain⟨p',xs',Cs',e2,q2,c2⟩:=h _ s'
 rw[e] at e2;cases e2
 have c3:(p,HO.lst xs)=(p,HO.lst xs')/\Cs.flatten=Cs'.flatten:=by
  injection c2 with h1 h2
  exact⟨h1,h2⟩
 obtain⟨c3,c4⟩:=c3
 cases c3
 have hH':H' p=some (.lst xs):=w'.tr (p, .lst xs) (by rw[List.flatten_cons];exact List.mem_append_right _ (List.mem_flatten.mpr ⟨_,List.mem_of_getElem? hk',List.mem_cons_self⟩))
 cases hlt:decide (as.length<sizeLine) with
 |false=>rw[chk,if_neg (by simpa using hlt)] at P';exact P'.elim
 |true=>
  have hlt':as.length<sizeLine:=by simpa using hlt
  rw[Xv hlt'] at P'
  have wnd:=w'.nd
  have hcell:∀c∈(p,HO.lst (xs++[y]))::(Cs'++[D']).flatten,upd H' p (.lst (xs++[y])) c.1=some c.2:=λc hc=>by
   rcases List.mem_cons.mp hc with rfl |hc
   ·exact Yr
   ·have hp1:=XF hk'
    have w3:W [D'++(((p,HO.lst xs)::Cs.flatten)++(OO'.set k []).flatten)] H':=w'.of (by
     simp only[List.flatten_cons,List.flatten_nil,List.append_nil]
     exact(by simpa using hp1:(((p,HO.lst xs)::Cs.flatten)++(OO'.set k []).flatten).Perm OO'.flatten).append_left D')
    have hin:c∈D'++(((p,HO.lst xs)::Cs.flatten)++(OO'.set k []).flatten):=by
     rw[YD,List.mem_append] at hc
     rcases hc with hc |hc
     ·rw[←c4] at hc;simp[hc]
     ·simp[hc]
    have hne:c.1≠p:=λee=>by
     have nd3:=w3.nd
     rw[YD,List.mem_append, ←c4] at hc
     simp only[fl,List.flatten_cons,List.flatten_nil,List.append_nil,List.map_append,List.cons_append,List.map_cons] at nd3
     rw[List.nodup_append] at nd3
     obtain⟨_,n2,n3⟩:=nd3
     rcases hc with hc |hc
     ·exact(List.nodup_cons.mp n2).1 (List.mem_append_left _ (List.mem_map.mpr ⟨c,hc,ee⟩))
     ·exact n3 c.1 (List.mem_map.mpr ⟨c,hc,rfl⟩) p List.mem_cons_self ee
    rw[Xs hne]
    exact w3.tr c (by simpa using hin)
  obtain⟨w4,h4⟩:=Mp (C':=(p, .lst (xs++[y]))::(Cs'++[D']).flatten) w' hk' List.mem_cons_self (by simp[YD,c4]) hcell (λc hc=>by
   rcases List.mem_cons.mp hc with rfl |hc
   ·rfl
   ·rw[YD,List.mem_append, ←c4] at hc
    rcases hc with hc |hc
    ·exact w'.mu c (by rw[List.flatten_cons];exact List.mem_append_right _ (List.mem_flatten.mpr ⟨_,List.mem_of_getElem? hk',List.mem_cons_of_mem _ hc⟩))
    ·exact w'.mu c (by rw[List.flatten_cons];exact List.mem_append_left _ hc))
  refine⟨p,xs,y,e,rfl,hH',by rw[(P3.len q).1];exact hlt',?_⟩
  refine hr a _ _ D w4 ?_ (by rw[h4];exact P')
  rw[h4]
  exact⟨s',⟨p,xs++[y],Cs'++[D'],e,q2.snoc ho,rfl⟩⟩
end
section
variable {K:PySem.W.Frag}{Er:Exc->Hp->Prop}{S:SC}{OO OO' OO2:List (List Xy)}{σ:St}{α β γ ρ ι δ ε:Type}
variable {Fd:Ends->β->Hp->Prop}[fd:FdOk Fd]{u:TS}
noncomputable def forN:List α->γ->(γ->α->Rs γ)->Rs γ
 | [],g,_=>.ok g
 |a::as,g,f=>(f g a).bind λg'=>forN as g' f
noncomputable def forC:List α->γ->(γ->α->Rs (Ctl ρ γ))->Rs (Ctl ρ γ)
 | [],g,_=>.ok (.nx g)
 |a::as,g,f=>(f g a).bind λc=>match c with
  | .ret r=>.ok (.ret r)
  | .nx g'=>forC as g' f
theorem X7 {m:Rs α}{f:α->Rs β}{g:β->Rs γ}:(m.bind f).bind g=m.bind λa=>(f a).bind g:=by cases m<;> rfl
structure Tgt (K:PySem.W.Frag)(OO:List (List Xy))(g:TG)(r:Enc α)(κ:Type) where
 set:κ->St->St
 sc:α->κ->SC->SC
 ok:∀{H:Hp}{v:V}{a:α}{σ:St}{S:SC}{Q:St->Hp->Prop},r K (hid H OO) v a->S.p (hid H OO)->(∀x,(sc a x S).p (hid H OO)->Q (set x σ) H)->g v σ H Q
@[reducible] noncomputable def tg1 {r:Enc α}[MonoE r](i:Nat):Tgt K OO (YU i) r V where
 set:=λv σ=>σ.set i (some v)
 sc:=λa v S=>S.add K r v a
 ok:=fun {H v a σ S Q} hr hs hq=>hq v ⟨hs,hr⟩
@[reducible] noncomputable def tg2 {r:Enc α}{q:Enc β}[MonoE r][MonoE q](i j:Nat):Tgt K OO (Bc K 2 (Zq (YU i) (Zq (YU j) B6))) (rP2 r q) (V×V) where
 set:=λv σ=>(σ.set i (some v.1)).set j (some v.2)
 sc:=λa v S=>(S.add K r v.1 a.1).add K q v.2 a.2
 ok:=fun {H v a σ S Q} r9 hs hq=>by obtain⟨p,x,y,e,h,h1,h2⟩:=r9;exact⟨p,_,e,SqT.of (Xn _ _ h),rfl,x,[y],rfl,y,[],rfl,rfl,hq (x,y) ⟨⟨hs,h1⟩,h2⟩⟩
@[reducible] noncomputable def tg3 {r:Enc α}{q:Enc β}{t:Enc γ}[MonoE r][MonoE q][MonoE t](i j k:Nat):Tgt K OO (Bc K 3 (Zq (YU i) (Zq (YU j) (Zq (YU k) B6)))) (rP3 r q t) (V×V×V) where
 set:=λv σ=>((σ.set i (some v.1)).set j (some v.2.1)).set k (some v.2.2)
 sc:=λa v S=>((S.add K r v.1 a.1).add K q v.2.1 a.2.1).add K t v.2.2 a.2.2
 ok:=fun {H v a σ S Q} r9 hs hq=>by obtain⟨p,x,y,z,e,h,h1,h2,h3⟩:=r9;exact⟨p,_,e,SqT.of (Xn _ _ h),rfl,x,[y,z],rfl,y,[z],rfl,z,[],rfl,rfl,hq (x,y,z) ⟨⟨⟨hs,h1⟩,h2⟩,h3⟩⟩
structure Walk (K:PySem.W.Frag)(Er:Exc->Hp->Prop)(S:SC)(OO:List (List Xy))(σ:St)(wi:TI)(r:Enc α)(m:Rs (List α)):Prop where
 ok:∀{H:Hp}{R:It->Hp->Prop},W OO H->S.p (hid H OO)->PZ Er (λas H=>∀ J H',Xr H H'->
   (∀(i:Nat) a,as[i]?=some a->∀OO2 H2,W OO2 H2->Xr (hid H' OO) (hid H2 OO2)->J.go i H2/\∀x H3,J.yld i H2 x H3->Xr H2 H3/\r K (hid H3 OO2) x a)->
   (∀OO2 H2,W OO2 H2->Xr (hid H' OO) (hid H2 OO2)->J.stop as.length H2)->R J H') H m->wi σ H R
theorem XS {te:TE}{r:Enc α}[z:MonoE r]{m:Rs (List α)}(he:EvS K Er S OO σ te (rV r) m):Walk K Er S OO σ (ER K te) r m:=⟨fun {H R} w s P=>by
 refine he H _ w s (P.imp λas _ h v H' s' ⟨p,xs,e,hp,pr⟩=>⟨p,e,⟨xs,SqL.of (Xn _ _ hp)⟩,h _ H' s' ?_ ?_⟩)
 ·intro i a ha OO2 H2 w2 m2
  obtain⟨x,hx,rx⟩:=Paired.getR pr ha
  have hq:SqL K H2 p xs:=SqL.of (Xn _ _ (m2 _ _ hp))
  refine⟨⟨xs,x,hq,hx⟩,λy H3 r9=>?_⟩
  obtain⟨e3,hy⟩:=r9
  subst e3
  refine⟨Xr.refl _,?_⟩
  have:=hy xs hq
  rw[hx] at this
  cases this
  exact z.mono m2 rx
 ·intro OO2 H2 w2 m2
  exact⟨xs,SqL.of (Xn _ _ (m2 _ _ hp)),by rw[Paired.len pr];exact Nat.le_refl _⟩⟩
noncomputable def Je (as:List α):List (Int×α):=(List.range as.length).map (λ(i:Nat)=>(i:Int)) |>.zip as
theorem VE {as:List α}{i:Nat}{p:Int×α}(h:(Je as)[i]?=some p):p.1=(i:Int)/\as[i]?=some p.2:=by
 unfold Je at h
 rw[List.getElem?_zip_eq_some] at h
 obtain⟨h1,h2⟩:=h
 rw[List.getElem?_map] at h1
 have hlt:i<as.length:=by
  rcases Nat.lt_or_ge i as.length with q |q
  ·exact q
  ·rw[List.getElem?_eq_none q] at h2;cases h2
 rw[List.getElem?_range hlt] at h1
 exact⟨(Option.some.inj h1).symm,h2⟩
theorem DA {as:List α}:(Je as).length=as.length:=by simp[Je]
theorem Kk {te:TE}{r:Enc α}[z:MonoE r]{m:Rs (List α)}(he:EvS K Er S OO σ te (rV r) m):Walk K Er S OO σ (IW K te) (rP2 Xa r) (m.bind λas=>.ok (Je as)):=⟨fun {H R} w s P=>by
 refine he H _ w s ?_
 cases em:m with
 |bad=>rw[em] at P;exact P
 |err x=>rw[em] at P;exact P
 |ok as=>
  rw[em] at P
  intro v H' s' ⟨p,xs,e,hp,pr⟩
  refine⟨p,e,⟨xs,SqL.of (Xn _ _ hp)⟩,P _ H' s' ?_ ?_⟩
  ·intro i a ha OO2 H2 w2 m2
   obtain⟨ha1,ha2⟩:=VE ha
   obtain⟨x,hx,rx⟩:=Paired.getR pr ha2
   have hq:SqL K H2 p xs:=SqL.of (Xn _ _ (m2 _ _ hp))
   refine⟨⟨xs,x,hq,hx⟩,λy H3 h3=>?_⟩
   obtain⟨b,x',rfl,hb,rfl,hy⟩:=h3
   have:=hy xs hq
   rw[hx] at this
   cases this
   refine⟨Xz hb _,⟨b, .int i,x,rfl,Zv w2 hb,by show V.int _=V.int _;rw[ha1],z.mono (m2.trans (Xh (Xz hb _))) rx⟩⟩
  ·intro OO2 H2 w2 m2
   exact⟨xs,SqL.of (Xn _ _ (m2 _ _ hp)),by rw[DA,Paired.len pr];exact Nat.le_refl _⟩⟩
theorem GP {lo hi:Int}{i:Nat}{a:Int}(h:(Q2 lo hi)[i]?=some a):a=lo+i/\i<(hi-lo).toNat:=by
 unfold Q2 at h
 rw[List.getElem?_map] at h
 rcases Nat.lt_or_ge i (hi-lo).toNat with q |q
 ·rw[List.getElem?_range q] at h;exact⟨(Option.some.inj h).symm,q⟩
 ·rw[List.getElem?_eq_none (by simpa using q)] at h;cases h
theorem GV {lo hi:Int}:(Q2 lo hi).length=(hi-lo).toNat:=by simp[Q2]
noncomputable def CS (lo hi:Int):Rs (List Int):=chk (-(2^62)<=lo/\lo<2^62/\ -(2^62)<=hi/\hi<2^62) (.ok (Q2 lo hi))
theorem YJ {te:TE}{m:Rs Int}(he:EvB K Er S OO σ te Xa m):Walk K Er S OO σ (Lr (XO te Jf)) Xa (m.bind λn=>CS 0 n):=⟨fun {H R} w s P=>
 he.run w s (λas H H' s' h J H2 s2=>h J H2 (s'.trans s2)) P λn v H1 s1 w1 q1 r1 P1=>by
  obtain⟨c,hc,P2⟩:=P1.okOf λx=>Qa
  obtain⟨⟨_,_,h1,h2⟩,h3⟩:=Zm hc
  cases h3
  refine⟨n,by rw[show v= .int n from r1],h1,h2,P2 _ H1 (Xr.refl _) (λi a ha OO2 H2 w2 m2=>?_) λOO2 H2 w2 m2=>?_⟩
  ·obtain⟨e1,e2⟩:=GP ha
   rw[Int.sub_zero] at e2
   refine⟨e2,λx H3 r9=>?_⟩
   obtain⟨e3,e4⟩:=r9
   subst e3
   exact⟨Xr.refl _,by rw[e4,e1];rfl⟩
  ·show n.toNat<=_
   rw[GV,Int.sub_zero];exact Nat.le_refl _⟩
theorem ZX {wi:TI}{g:TG}{tb:TS}{r:Enc α}{κ:Type}{m:Rs (List α)}{body:γ->α->Rs γ}{f:γ->Rs β}(J:Jn γ ι)(T:∀OO,Tgt K OO g r κ)(x0:ι)(g0:γ)(he:Walk K Er S OO σ wi r m)(h1:OO=J.oo x0)(h2:σ=J.ss x0)(h3:∀h,S.p h->(J.sc g0 x0).p h)
  (hb:∀g x a v,Sv Er ((T (J.oo x)).sc a v (J.sc g x)) (J.oo x) ((T (J.oo x)).set v (J.ss x)) tb (FNd J) (body g a))
  (hr:∀g x,Sv Er (J.sc g x) (J.oo x) (J.ss x) u Fd (f g)):Sv Er S OO σ (JC (L8 wi g tb) u) Fd (m.bind λas=>(forN as g0 body).bind f):=λH D w s P=>by
 refine he.ok w s ?_
 cases em:m with
 |bad=>rw[em] at P;exact P
 |err x=>rw[em] at P;exact λH' s'=>P H' (Xn.trans s')
 |ok as=>
  rw[em] at P
  have P:PZ Er (Fd D) (hid H OO) ((forN as g0 body).bind f):=P
  intro It H' s' hgo hstop
  refine⟨λi mm σ' H2=>mm=as.length-i/\i<=as.length/\∃x gg,σ'=J.ss x/\W (J.oo x) H2/\Xr (hid H' OO) (hid H2 (J.oo x))/\(J.sc gg x).p (hid H2 (J.oo x))/\PZ Er (Fd D) (hid H2 (J.oo x)) ((forN (as.drop i) gg body).bind f),⟨as.length,rfl,Nat.zero_le _,x0,g0,h2,?_,?_,?_,?_⟩,?_⟩
  ·rw[←h1];exact w.keep s'
  ·rw[←h1];exact Xr.refl _
  ·rw[←h1];exact h3 _ (S.mono _ _ (Xh s') s)
  ·rw[←h1,List.drop_zero];exact PZ.tr (fd.tr D) (Xh s') P
  ·rintro i mm σ' H2 ⟨rfl,hi,x,gg,rfl,w2,m2,sc2,P2⟩
   by_cases hlt:i<as.length
   ·right
    have ha:as[i]?=some as[i]:=by simp[hlt]
    obtain⟨h4,h5⟩:=hgo i _ ha (J.oo x) H2 w2 m2
    refine⟨h4,λσ3 H3=>∃ x gg,σ3=J.ss x/\W (J.oo x) H3/\Xr (hid H' OO) (hid H3 (J.oo x))/\(J.sc gg x).p (hid H3 (J.oo x))/\PZ Er (Fd D) (hid H3 (J.oo x)) ((forN (as.drop (i+1)) gg body).bind f),λσ3 H3 q=>⟨as.length-(i+1),Nat.sub_lt_sub_left hlt (Nat.lt_succ_self i),rfl,hlt,q⟩,λy H3 hy=>?_⟩
    obtain⟨s3,r3⟩:=h5 y H3 hy
    have w3:=w2.keep s3
    have m3:=Xh (OO:=J.oo x) s3
    refine(T (J.oo x)).ok r3 ((J.sc gg x).mono _ _ m3 sc2) λv hv=>hb gg x as[i] v H3 _ w3 hv ?_
    rw[List.drop_eq_getElem_cons hlt] at P2
    have P3:PZ Er (Fd D) (hid H2 (J.oo x)) ((body gg as[i]).bind λg'=>(forN (as.drop (i+1)) g' body).bind f):=by rw[←X7];exact P2
    cases eb:body gg as[i] with
    |bad=>rw[eb] at P3;exact P3
    |err x=>rw[eb] at P3;exact λH4 s4=>P3 H4 (m3.trans s4)
    |ok g'=>
     rw[eb] at P3
     exact λx' H4 w4 m4 sc4=>⟨x',g',rfl,w4,m2.trans (m3.trans m4),sc4,PZ.tr (fd.tr D) (m3.trans m4) P3⟩
   ·left
    have e:i=as.length:=Nat.le_antisymm hi (Nat.not_lt.mp hlt)
    subst e
    refine⟨hstop (J.oo x) H2 w2 m2,hr gg x H2 D w2 sc2 ?_⟩
    rw[List.drop_length] at P2
    exact P2
theorem EO {o:OE ρ}{wi:TI}{g:TG}{tb:TS}{r:Enc α}{κ:Type}{m:Rs (List α)}{body:γ->α->Rs (Ctl ρ γ)}{f:γ->Rs ρ}(J:Jn γ ι)(T:∀OO,Tgt K OO g r κ)(x0:ι)(g0:γ)(he:Walk K Er S OO σ wi r m)(h1:OO=J.oo x0)(h2:σ=J.ss x0)(h3:∀h,S.p h->(J.sc g0 x0).p h)
  (hb:∀g x a v,Sv Er ((T (J.oo x)).sc a v (J.sc g x)) (J.oo x) ((T (J.oo x)).set v (J.ss x)) tb (FCd K o J) (body g a))
  (hr:∀g x,Sv Er (J.sc g x) (J.oo x) (J.ss x) u (FTd K o) (f g)):Sv Er S OO σ (JC (L8 wi g tb) u) (FTd K o) (m.bind λas=>(forC as g0 body).bind (Jg f)):=λH D w s P=>by
 refine he.ok w s ?_
 cases em:m with
 |bad=>rw[em] at P;exact P
 |err x=>rw[em] at P;exact λH' s'=>P H' (Xn.trans s')
 |ok as=>
  rw[em] at P
  have P:PZ Er (FTd K o D) (hid H OO) ((forC as g0 body).bind (Jg f)):=P
  intro It H' s' hgo hstop
  refine⟨λi mm σ' H2=>mm=as.length-i/\i<=as.length/\∃x gg,σ'=J.ss x/\W (J.oo x) H2/\Xr (hid H' OO) (hid H2 (J.oo x))/\(J.sc gg x).p (hid H2 (J.oo x))/\PZ Er (FTd K o D) (hid H2 (J.oo x)) ((forC (as.drop i) gg body).bind (Jg f)),⟨as.length,rfl,Nat.zero_le _,x0,g0,h2,?_,?_,?_,?_⟩,?_⟩
  ·rw[←h1];exact w.keep s'
  ·rw[←h1];exact Xr.refl _
  ·rw[←h1];exact h3 _ (S.mono _ _ (Xh s') s)
  ·rw[←h1,List.drop_zero];exact PZ.tr (FdOk.tr D) (Xh s') P
  ·rintro i mm σ' H2 ⟨rfl,hi,x,gg,rfl,w2,m2,sc2,P2⟩
   by_cases hlt:i<as.length
   ·right
    have ha:as[i]?=some as[i]:=by simp[hlt]
    obtain⟨h4,h5⟩:=hgo i _ ha (J.oo x) H2 w2 m2
    refine⟨h4,λσ3 H3=>∃ x gg,σ3=J.ss x/\W (J.oo x) H3/\Xr (hid H' OO) (hid H3 (J.oo x))/\(J.sc gg x).p (hid H3 (J.oo x))/\PZ Er (FTd K o D) (hid H3 (J.oo x)) ((forC (as.drop (i+1)) gg body).bind (Jg f)),λσ3 H3 q=>⟨as.length-(i+1),Nat.sub_lt_sub_left hlt (Nat.lt_succ_self i),rfl,hlt,q⟩,λy H3 hy=>?_⟩
    obtain⟨s3,r3⟩:=h5 y H3 hy
    have w3:=w2.keep s3
    have m3:=Xh (OO:=J.oo x) s3
    refine(T (J.oo x)).ok r3 ((J.sc gg x).mono _ _ m3 sc2) λv hv=>hb gg x as[i] v H3 _ w3 hv ?_
    rw[List.drop_eq_getElem_cons hlt] at P2
    have P3:PZ Er (FTd K o D) (hid H2 (J.oo x)) ((body gg as[i]).bind λc=>(match c with
     | .ret r=>Rs.ok (Ctl.ret r)
     | .nx g'=>forC (as.drop (i+1)) g' body).bind (Jg f)):=by rw[←X7];exact P2
    cases eb:body gg as[i] with
    |bad=>rw[eb] at P3;exact P3
    |err x=>rw[eb] at P3;exact λH4 s4=>P3 H4 (m3.trans s4)
    |ok c=>
     rw[eb] at P3
     cases c with
     |ret r=>exact FdOk.tr (Fd:=FTd K o) D r _ _ m3 P3
     |nx g'=>exact λx' H4 w4 m4 sc4=>⟨x',g',rfl,w4,m2.trans (m3.trans m4),sc4,PZ.tr (FdOk.tr D) (m3.trans m4) P3⟩
   ·left
    have e:i=as.length:=Nat.le_antisymm hi (Nat.not_lt.mp hlt)
    subst e
    refine⟨hstop (J.oo x) H2 w2 m2,hr gg x H2 D w2 sc2 ?_⟩
    rw[List.drop_length] at P2
    exact P2
noncomputable def ZV:Nat->γ->(γ->Rs Bool)->(γ->Rs γ)->Rs γ
 |0,_,_,_=>.bad
 |n+1,g,c,f=>(c g).bind λb=>if b=true then(f g).bind λg'=>ZV n g' c f else .ok g
theorem Uo {c:TT}{tb:TS}{mc:γ->Rs Bool}{body:γ->Rs γ}{f:γ->Rs β}(J:Jn γ ι)(n:Nat)(x0:ι)(g0:γ)(h1:OO=J.oo x0)(h2:σ=J.ss x0)(h3:∀h,S.p h->(J.sc g0 x0).p h)
  (hc:∀g x,EvT Er (J.sc g x) (J.oo x) (J.ss x) c (mc g))(hb:∀g x,Sv Er (J.sc g x) (J.oo x) (J.ss x) tb (FNd J) (body g))
  (hr:∀g x,Sv Er (J.sc g x) (J.oo x) (J.ss x) u Fd (f g)):Sv Er S OO σ (JC (Cn c tb) u) Fd ((ZV n g0 mc body).bind f):=λH D w s P=>by
 refine⟨λmm σ' H2=>∃ x gg,σ'=J.ss x/\W (J.oo x) H2/\(J.sc gg x).p (hid H2 (J.oo x))/\PZ Er (Fd D) (hid H2 (J.oo x)) ((ZV mm gg mc body).bind f),⟨n,x0,g0,h2,by rw[←h1];exact w,by rw[←h1];exact h3 _ s,by rw[←h1];exact P⟩,?_⟩
 rintro mm σ' H2 ⟨x,gg,rfl,w2,sc2,P2⟩
 cases mm with
 |zero=>exact P2.elim
 |succ mm=>
  have P3:PZ Er (Fd D) (hid H2 (J.oo x)) ((mc gg).bind λb=>(if b=true then(body gg).bind λg'=>ZV mm g' mc body else .ok gg).bind f):=by rw[←X7];exact P2
  refine(hc gg x).st w2 sc2 P3 λb H3 w3 sc3 P4=>?_
  cases b with
  |false=>exact hr gg x H3 D w3 sc3 P4
  |true=>
   rw[if_pos rfl] at P4⊢
   refine⟨λσ3 H4=>∃ x gg,σ3=J.ss x/\W (J.oo x) H4/\(J.sc gg x).p (hid H4 (J.oo x))/\PZ Er (Fd D) (hid H4 (J.oo x)) ((ZV mm gg mc body).bind f),λσ3 H4 q=>⟨mm,Nat.lt_succ_self _,q⟩,hb gg x H3 _ w3 sc3 ?_⟩
   rw[X7] at P4
   cases eb:body gg with
   |bad=>rw[eb] at P4;exact P4
   |err x=>rw[eb] at P4;exact P4
   |ok g'=>
    rw[eb] at P4
    exact λx' H5 w5 m5 sc5=>⟨x',g',rfl,w5,sc5,PZ.tr (fd.tr D) m5 P4⟩
noncomputable def Fg (as:List α)(f:α->Rs β):Rs (List β):=match as with
 | []=>.ok []
 |a::as=>(f a).bind λb=>(Fg as f).bind λbs=>.ok (b::bs)
noncomputable def UW (as:List α)(f:α->Rs β):Rs (List β):=chk (as.length<=sizeLine) (Fg as f)
noncomputable def Gm (as:List α)(c:α->Rs Bool)(f:α->Rs β):Rs (List β):=match as with
 | []=>.ok []
 |a::as=>(c a).bind λb=>if b=true then(f a).bind λb=>(Gm as c f).bind λbs=>.ok (b::bs) else Gm as c f
noncomputable def E9 (as:List α)(c:α->Rs Bool)(f:α->Rs β):Rs (List β):=chk (as.length<=sizeLine) (Gm as c f)
theorem PZ.chk {F:β->Hp->Prop}{H:Hp}{c:Prop}[Decidable c]{m:Rs β}(P:PZ Er F H (chk c m)):c/\PZ Er F H m:=by
 unfold L2.chk at P;split at P
 ·exact⟨by assumption,P⟩
 ·exact P.elim
theorem Lp {o:OE α}[z:MonoO o]{xs:List V}{as:List α}{Cs:List (List Xy)}{H H0:Hp}{Q:VK}(w:W (Cs.flatten::OO) H)(m0:Xr (hid H0 OO) (hid H (Cs.flatten::OO)))(s0:Xr H0 H)(pr:P3 (o K (hid H (Cs.flatten::OO))) xs as Cs)(P:FO K OO OO (oL o) Q as H0):∀p,H p=none->Q (.ref p) (upd H p (.lst xs)):=λp hp=>by
 have hn:=Jl (OO:=Cs.flatten::OO) hp (o:=.lst xs)
 have wn:=w.new hp (o:=.lst xs) rfl
 have pe:(((p,HO.lst xs)::Cs.flatten)::OO).flatten.Perm ([(p,HO.lst xs)]::Cs.flatten::OO).flatten:=by simp
 refine P (.ref p) ((p, .lst xs)::Cs.flatten) _ (s0.trans (Xz hp _)) (wn.of pe) ?_ ?_
 ·rw[Xx pe];exact m0.trans hn
 ·rw[Xx pe]
  exact⟨p,xs,Cs,rfl,pr.imp λ_ _ _ h=>z.mono hn h,rfl⟩
theorem ZK {o:OE β}[z:MonoO o]{wi:TI}{g:TG}{te:TE}{r:Enc α}{κ:Type}{m:Rs (List α)}{f:α->Rs β}{n:Nat}{caps:List (Nat×Str)}(T:∀OO,Tgt K OO g r κ)(he:Walk K Er S OO σ wi r m)
  (hb:∀C a v,Ev K Er ((T (C::OO)).sc a v S) (C::OO) (C::OO) ((T (C::OO)).set v (Q3 n caps σ)) te o (f a)):Ev K Er S OO OO σ (CK n caps wi g Uu te) (oL o) (m.bind λas=>UW as f):=λH Q w s P=>by
 refine he.ok w s ?_
 cases em:m with
 |bad=>rw[em] at P;exact P
 |err x=>rw[em] at P;exact P
 |ok as=>
  rw[em] at P
  obtain⟨hsz,P⟩:=PZ.chk (show PZ Er _ H (chk (as.length<=sizeLine) (Fg as f)) from P)
  intro It H' s' hgo hstop
  -- what is left: the rest of the items, then all
  refine⟨λi mm ys H2=>mm=as.length-i/\i<=as.length/\∃bs Cs,Xr H H2/\W (Cs.flatten::OO) H2/\Xr (hid H' OO) (hid H2 (Cs.flatten::OO))/\P3 (o K (hid H2 (Cs.flatten::OO))) ys bs Cs/\bs.length=i/\PZ Er (FO K OO OO (oL o) Q) H ((Fg (as.drop i) f).bind λrest=>.ok (bs++rest)),
   ⟨as.length,rfl,Nat.zero_le _,[],[],s',(w.keep s').nil,by show Xr _ (hid H' ([]::OO));rw[Z0];exact Xr.refl _, .nil,rfl,?_⟩,?_⟩
  ·rw[List.drop_zero]
   revert P
   cases Fg as f<;> exact λz=>z
  ·rintro i mm ys H2 ⟨rfl,hi,bs,Cs,s2,w2,m2,pr,hlen,P2⟩
   refine⟨by rw[pr.len.1,hlen];omega,?_⟩
   by_cases hlt:i<as.length
   ·right
    have ha:as[i]?=some as[i]:=by simp[hlt]
    obtain⟨h4,h5⟩:=hgo i _ ha (Cs.flatten::OO) H2 w2 m2
    refine⟨h4,λys' H3=>∃ bs Cs,Xr H H3/\W (Cs.flatten::OO) H3/\Xr (hid H' OO) (hid H3 (Cs.flatten::OO))/\P3 (o K (hid H3 (Cs.flatten::OO))) ys' bs Cs/\bs.length=i+1/\PZ Er (FO K OO OO (oL o) Q) H ((Fg (as.drop (i+1)) f).bind λrest=>.ok (bs++rest)),λys' H3 q=>⟨as.length-(i+1),Nat.sub_lt_sub_left hlt (Nat.lt_succ_self i),rfl,hlt,q⟩,λy H3 hy=>?_⟩
    obtain⟨s3,r3⟩:=h5 y H3 hy
    have w3:=w2.keep s3
    have m3:=Xh (OO:=Cs.flatten::OO) s3
    have sS:S.p (hid H3 (Cs.flatten::OO)):=S.mono _ _ ((Xh s').trans (m2.trans m3)) s
    refine(T (Cs.flatten::OO)).ok r3 sS λv hv=>?_
    show Uu _ _ _
    refine Ij ?_
    rw[List.drop_eq_getElem_cons hlt] at P2
    have P3':PZ Er (FO K OO OO (oL o) Q) H ((f as[i]).bind λb=>(Fg (as.drop (i+1)) f).bind λrest=>.ok (bs++b::rest)):=by
     have:((f as[i]).bind λb=>(Fg (as.drop (i+1)) f).bind λrest=>Rs.ok (bs++b::rest))=(Fg (as[i]::as.drop (i+1)) f).bind λrest=>.ok (bs++rest):=by
      show _=((f as[i]).bind λb=>(Fg (as.drop (i+1)) f).bind λbs=>Rs.ok (b::bs)).bind _
      rw[X7];congr 1;funext b;rw[X7];rfl
     rw[this];exact P2
    refine hb Cs.flatten as[i] v H3 _ w3 hv ?_
    cases eb:f as[i] with
    |bad=>rw[eb] at P3';exact P3'
    |err x=>rw[eb] at P3';exact λH4 s4=>P3' H4 (s2.trans (s3.trans s4))
    |ok b=>
     rw[eb] at P3'
     intro v' C' H4 s4 w4 m4 ho
     have pe:((Cs++[C']).flatten::OO).flatten.Perm (C'::Cs.flatten::OO).flatten:=by
      simp only[YD,List.flatten_cons]
      rw[List.append_assoc, ←List.append_assoc, ←List.append_assoc]
      exact List.perm_append_comm.append_right _
     refine⟨bs++[b],Cs++[C'],s2.trans (s3.trans s4),w4.of pe,?_,?_,by simp[hlen],?_⟩
     ·rw[Xx pe];exact m2.trans (m3.trans m4)
     ·rw[Xx pe];exact P3.snoc (pr.imp λ_ _ _ h=>z.mono (m3.trans m4) h) ho
     ·have P4:PZ Er (FO K OO OO (oL o) Q) H ((Fg (as.drop (i+1)) f).bind λrest=> .ok (bs++b::rest)):=P3'
      simpa using P4
   ·left
    have e:i=as.length:=Nat.le_antisymm hi (Nat.not_lt.mp hlt)
    subst e
    refine⟨hstop (Cs.flatten::OO) H2 w2 m2,?_⟩
    rw[List.drop_length] at P2
    have P3':FO K OO OO (oL o) Q (bs++[]) H:=P2
    rw[List.append_nil] at P3'
    exact Lp (H0:=H) w2 ((Xh s').trans m2) s2 pr P3'
theorem Ug {o:OE β}[z:MonoO o]{wi:TI}{g:TG}{tt:TT}{te:TE}{r:Enc α}{κ:Type}{m:Rs (List α)}{c:α->Rs Bool}{f:α->Rs β}{n:Nat}{caps:List (Nat×Str)}(T:∀OO,Tgt K OO g r κ)(he:Walk K Er S OO σ wi r m)
  (hc:∀C a v,EvT Er ((T (C::OO)).sc a v S) (C::OO) ((T (C::OO)).set v (Q3 n caps σ)) tt (c a))
  (hb:∀C a v,Ev K Er ((T (C::OO)).sc a v S) (C::OO) (C::OO) ((T (C::OO)).set v (Q3 n caps σ)) te o (f a)):Ev K Er S OO OO σ (CK n caps wi g tt te) (oL o) (m.bind λas=>E9 as c f):=λH Q w s P=>by
 refine he.ok w s ?_
 cases em:m with
 |bad=>rw[em] at P;exact P
 |err x=>rw[em] at P;exact P
 |ok as=>
  rw[em] at P
  obtain⟨hsz,P⟩:=PZ.chk (show PZ Er _ H (chk (as.length<=sizeLine) (Gm as c f)) from P)
  intro It H' s' hgo hstop
  refine⟨λi mm ys H2=>mm=as.length-i/\i<=as.length/\∃bs Cs,Xr H H2/\W (Cs.flatten::OO) H2/\Xr (hid H' OO) (hid H2 (Cs.flatten::OO))/\P3 (o K (hid H2 (Cs.flatten::OO))) ys bs Cs/\bs.length<=i/\PZ Er (FO K OO OO (oL o) Q) H ((Gm (as.drop i) c f).bind λrest=>.ok (bs++rest)),
   ⟨as.length,rfl,Nat.zero_le _,[],[],s',(w.keep s').nil,by show Xr _ (hid H' ([]::OO));rw[Z0];exact Xr.refl _, .nil,Nat.zero_le _,?_⟩,?_⟩
  ·rw[List.drop_zero]
   revert P
   cases Gm as c f<;> exact λz=>z
  ·rintro i mm ys H2 ⟨rfl,hi,bs,Cs,s2,w2,m2,pr,hlen,P2⟩
   refine⟨by rw[pr.len.1];omega,?_⟩
   by_cases hlt:i<as.length
   ·right
    have ha:as[i]?=some as[i]:=by simp[hlt]
    obtain⟨h4,h5⟩:=hgo i _ ha (Cs.flatten::OO) H2 w2 m2
    refine⟨h4,λys' H3=>∃ bs Cs,Xr H H3/\W (Cs.flatten::OO) H3/\Xr (hid H' OO) (hid H3 (Cs.flatten::OO))/\P3 (o K (hid H3 (Cs.flatten::OO))) ys' bs Cs/\bs.length<=i+1/\PZ Er (FO K OO OO (oL o) Q) H ((Gm (as.drop (i+1)) c f).bind λrest=>.ok (bs++rest)),λys' H3 q=>⟨as.length-(i+1),Nat.sub_lt_sub_left hlt (Nat.lt_succ_self i),rfl,hlt,q⟩,λy H3 hy=>?_⟩
    obtain⟨s3,r3⟩:=h5 y H3 hy
    have w3:=w2.keep s3
    have m3:=Xh (OO:=Cs.flatten::OO) s3
    have sS:S.p (hid H3 (Cs.flatten::OO)):=S.mono _ _ ((Xh s').trans (m2.trans m3)) s
    refine(T (Cs.flatten::OO)).ok r3 sS λv hv=>?_
    rw[List.drop_eq_getElem_cons hlt] at P2
    have P3':PZ Er (FO K OO OO (oL o) Q) H ((c as[i]).bind λb=>(if b=true then(f as[i]).bind λb=>(Gm (as.drop (i+1)) c f).bind λbs=>.ok (b::bs) else Gm (as.drop (i+1)) c f).bind λrest=>.ok (bs++rest)):=by
     rw[←X7];exact P2
    refine hc Cs.flatten as[i] v H3 _ w3 hv ?_
    cases ec:c as[i] with
    |bad=>rw[ec] at P3';exact P3'
    |err x=>rw[ec] at P3';exact λH4 s4=>P3' H4 (s2.trans (s3.trans s4))
    |ok b=>
     rw[ec] at P3'
     intro H4 s4
     have w4:=w3.keep s4
     have m4:=Xh (OO:=Cs.flatten::OO) s4
     cases b with
     |false=>exact⟨bs,Cs,s2.trans (s3.trans s4),w4,m2.trans (m3.trans m4),pr.imp λ_ _ _ h=>z.mono (m3.trans m4) h,Nat.le_succ_of_le hlen,P3'⟩
     |true=>
      rw[if_pos rfl]
      have P4:PZ Er (FO K OO OO (oL o) Q) H ((f as[i]).bind λb=>(Gm (as.drop (i+1)) c f).bind λrest=>.ok (bs++b::rest)):=by
       have:((f as[i]).bind λb=>(Gm (as.drop (i+1)) c f).bind λrest=>Rs.ok (bs++b::rest))=((f as[i]).bind λb=>(Gm (as.drop (i+1)) c f).bind λbs=>Rs.ok (b::bs)).bind λrest=>.ok (bs++rest):=by
        rw[X7];congr 1;funext b;rw[X7];rfl
       rw[this];exact P3'
      refine hb Cs.flatten as[i] v H4 _ w4 (((T (Cs.flatten::OO)).sc as[i] v S).mono _ _ m4 hv) ?_
      cases eb:f as[i] with
      |bad=>rw[eb] at P4;exact P4
      |err x=>rw[eb] at P4;exact λH5 s5=>P4 H5 (s2.trans (s3.trans (s4.trans s5)))
      |ok b=>
       rw[eb] at P4
       intro v' C' H5 s5 w5 m5 ho
       have pe:((Cs++[C']).flatten::OO).flatten.Perm (C'::Cs.flatten::OO).flatten:=by
        simp only[YD,List.flatten_cons]
        rw[List.append_assoc, ←List.append_assoc, ←List.append_assoc]
        exact List.perm_append_comm.append_right _
       refine⟨bs++[b],Cs++[C'],s2.trans (s3.trans (s4.trans s5)),w5.of pe,?_,?_,by simpa using hlen,?_⟩
       ·rw[Xx pe];exact m2.trans (m3.trans (m4.trans m5))
       ·rw[Xx pe];exact P3.snoc (pr.imp λ_ _ _ h=>z.mono (m3.trans (m4.trans m5)) h) ho
       ·have P5:PZ Er (FO K OO OO (oL o) Q) H ((Gm (as.drop (i+1)) c f).bind λrest=> .ok (bs++b::rest)):=P4
        simpa using P5
   ·left
    have e:i=as.length:=Nat.le_antisymm hi (Nat.not_lt.mp hlt)
    subst e
    refine⟨hstop (Cs.flatten::OO) H2 w2 m2,?_⟩
    rw[List.drop_length] at P2
    have P3':FO K OO OO (oL o) Q (bs++[]) H:=P2
    rw[List.append_nil] at P3'
    exact Lp (H0:=H) w2 ((Xh s').trans m2) s2 pr P3'
noncomputable def Vd (as:List α)(i:Int)(a:α):Rs (List α):=match ixN as.length i with
 |some j=>.ok (as.set j a)
 |none=>.bad
end
section
variable {K:PySem.W.Frag}{Er:Exc->Hp->Prop}{S:SC}{OO OO' OO2:List (List Xy)}{σ:St}{α β γ ρ ι δ ε:Type}
variable {Fd:Ends->β->Hp->Prop}[fd:FdOk Fd]{u:TS}
theorem L6 {C D C':List Xy}{H:Hp}{k:Nat}{p:Addr}{o:HO}(w:W (D::OO) H)(hk:OO[k]?=some C)(hp:p∈C.map (·.1))(hp':p∈C'.map (·.1))(hnd:(C'.map (·.1)).Nodup)(hin:∀b∈C'.map (·.1),b∈(C++D).map (·.1))(ht:∀c∈C',upd H p o c.1=some c.2)(hm:∀c∈C',IN c.2=true):
  W (OO.set k C') (upd H p o)/\Xr (hid H (D::OO)) (hid (upd H p o) (OO.set k C')):=by
 have hlt:k<OO.length:=by
  rcases Nat.lt_or_ge k OO.length with h |h
  ·exact h
  ·rw[List.getElem?_eq_none h] at hk;cases hk
 have h1:=XF hk
 have h2:=XF (OO:=OO.set k C') (k:=k) (C:=C') (by simp[hlt])
 rw[set_set] at h2
 have h3:(OO.set k C').flatten.Perm (C'++(OO.set k []).flatten):=by simpa using h2.symm
 have h4:(D::OO).flatten.Perm ((C++D)++(OO.set k []).flatten):=by
  rw[List.flatten_cons]
  refine((by simpa using h1.symm:OO.flatten.Perm (C++(OO.set k []).flatten)).append_left D).trans ?_
  rw[←List.append_assoc]
  exact List.perm_append_comm.append_right _
 have nd2:(((C++D)++(OO.set k []).flatten).map (·.1)).Nodup:=(h4.map _).nodup_iff.mp w.nd
 rw[List.map_append] at nd2
 obtain⟨n1,n2,n3⟩:=List.nodup_append.mp nd2
 refine⟨⟨λc hc=>?_,?_,λc hc=>?_⟩,λb v q=>?_⟩
 ·rcases List.mem_append.mp (h3.mem_iff.mp hc) with hc |hc
  ·exact ht c hc
  ·have hne:c.1≠p:=λe=>n3 p (hin p hp') c.1 (List.mem_map.mpr ⟨c,hc,rfl⟩) e.symm
   rw[Xs hne]
   exact w.tr c (h4.mem_iff.mpr (by simp[hc]))
 ·refine((h3.map _).nodup_iff).mpr ?_
  rw[List.map_append]
  exact List.nodup_append.mpr ⟨hnd,n2,λa ha b hb=>n3 a (hin a ha) b hb⟩
 ·rcases List.mem_append.mp (h3.mem_iff.mp hc) with hc |hc
  ·exact hm c hc
  ·exact w.mu c (h4.mem_iff.mpr (by simp[hc]))
 ·obtain⟨q1,q2⟩:=XI q
  have hbp:b≠p:=λe=>q2 (by
   rw[e]
   obtain⟨c,hc,rfl⟩:=List.mem_map.mp hp
   exact Q4 (h4.mem_iff.mpr (by simp[hc])))
  refine YM (by rw[Xs hbp];exact q1) λz=>q2 ?_
  obtain⟨o',ho'⟩:=G5 z
  rcases List.mem_append.mp (h3.mem_iff.mp ho') with hc |hc
  ·obtain⟨c,hc2,e⟩:=List.mem_map.mp (hin b (List.mem_map.mpr ⟨_,hc,rfl⟩))
   rw[←e]
   exact Q4 (h4.mem_iff.mpr (List.mem_append_left _ hc2))
  ·exact Q4 (c:=(b,o')) (h4.mem_iff.mpr (by simp[hc]))
theorem Mg {D:List Xy}{Cs Cs':List (List Xy)}{H:Hp}{k:Nat}{p:Addr}{xs xs':List V}(w:W (D::OO) H)(hk:OO[k]?=some ((p, .lst xs)::Cs.flatten))(hin:∀c∈Cs'.flatten,c∈Cs.flatten++D)(hnd:(Cs'.flatten.map (·.1)).Nodup):
  W (OO.set k ((p, .lst xs')::Cs'.flatten)) (upd H p (.lst xs'))/\Xr (hid H (D::OO)) (hid (upd H p (.lst xs')) (OO.set k ((p, .lst xs')::Cs'.flatten))):=by
 have h1:=XF hk
 have w3:W [((p,HO.lst xs)::(Cs.flatten++D))++(OO.set k []).flatten] H:=w.of (by
  simp only[List.flatten_cons,List.flatten_nil,List.append_nil]
  refine List.Perm.trans ?_ ((by simpa using h1:(((p,HO.lst xs)::Cs.flatten)++(OO.set k []).flatten).Perm OO.flatten).append_left D)
  rw[←List.append_assoc]
  refine List.Perm.append_right _ ?_
  exact(List.perm_append_comm (l₁:=(p,HO.lst xs)::Cs.flatten) (l₂:=D)))
 have nd:=w3.nd
 simp only[fl,List.flatten_cons,List.flatten_nil,List.append_nil,List.map_append,List.cons_append,List.map_cons] at nd
 have hne:∀c∈Cs'.flatten,c.1≠p:=λc hc e=>by
  refine(List.nodup_cons.mp nd).1 ?_
  rw[←e]
  refine List.mem_append_left _ ?_
  rw[←List.map_append]
  exact List.mem_map.mpr ⟨c,hin c hc,rfl⟩
 refine L6 w hk List.mem_cons_self List.mem_cons_self ?_ ?_ ?_ ?_
 ·rw[List.map_cons,List.nodup_cons]
  refine⟨λz=>?_,hnd⟩
  obtain⟨c,hc,e⟩:=List.mem_map.mp z
  exact hne c hc e
 ·intro b hb
  rcases List.mem_cons.mp hb with rfl |hb
  ·exact List.mem_cons_self
  ·obtain⟨c,hc,rfl⟩:=List.mem_map.mp hb
   rw[List.cons_append,List.map_cons]
   exact List.mem_cons_of_mem _ (List.mem_map.mpr ⟨c,hin c hc,rfl⟩)
 ·intro c hc
  rcases List.mem_cons.mp hc with rfl |hc
  ·exact Yr
  ·rw[Xs (hne c hc)]
   exact w3.tr c (by
    rw[List.flatten_cons,List.flatten_nil,List.append_nil]
    exact List.mem_append_left _ (List.mem_cons_of_mem _ (hin c hc)))
 ·intro c hc
  rcases List.mem_cons.mp hc with rfl |hc
  ·rfl
  ·exact w3.mu c (by
    rw[List.flatten_cons,List.flatten_nil,List.append_nil]
    exact List.mem_append_left _ (List.mem_cons_of_mem _ (hin c hc)))
theorem E6 {as:List α}{i:Int}{a:α}{bs:List α}(h:Vd as i a= .ok bs):∃j,ixN as.length i=some j/\bs=as.set j a:=by
 unfold Vd at h;split at h
 ·cases h;exact⟨_,by assumption,rfl⟩
 ·cases h
theorem Hu {as:List α}{i:Int}{a:α}{x:Exc}:Vd as i a≠ .err x:=by unfold Vd;split<;> exact λz=>nomatch z
theorem ZP {l r m:List Xy}(h:(l++r).Perm m)(n:(m.map (·.1)).Nodup):(l.map (·.1)).Nodup:=by
 have:((l++r).map (·.1)).Nodup:=(h.map _).nodup_iff.mpr n
 rw[List.map_append] at this
 exact(List.nodup_append.mp this).1
theorem GO {Cs:List (List Xy)}{j:Nat}{D:List Xy}(hj:j<Cs.length):((Cs.set j D).flatten++Cs[j]).Perm (Cs.flatten++D):=by
 have h1:=XF (OO:=Cs) (k:=j) (C:=Cs[j]) (by simp[hj])
 have h2:=XF (OO:=Cs.set j D) (k:=j) (C:=D) (by simp[hj])
 rw[set_set] at h2
 have h3:(Cs.set j D).flatten.Perm (D++(Cs.set j []).flatten):=by simpa using h2.symm
 have h4:Cs.flatten.Perm (Cs[j]++(Cs.set j []).flatten):=by simpa using h1.symm
 refine(h3.append_right _).trans (List.Perm.trans ?_ (h4.append_right _).symm)
 refine List.perm_append_comm.trans ((List.perm_append_comm.append_left _).trans ?_)
 rw[List.append_assoc]
theorem J8 {D:List Xy}{Cs:List (List Xy)}{H:Hp}{k:Nat}{p:Addr}{xs:List V}(w:W (D::OO) H)(hk:OO[k]?=some ((p, .lst xs)::Cs.flatten)):((Cs.flatten++D).map (·.1)).Nodup:=by
 have h1:=XF hk
 have w3:W [((p,HO.lst xs)::(Cs.flatten++D))++(OO.set k []).flatten] H:=w.of (by
  simp only[List.flatten_cons,List.flatten_nil,List.append_nil]
  refine List.Perm.trans ?_ ((by simpa using h1:(((p,HO.lst xs)::Cs.flatten)++(OO.set k []).flatten).Perm OO.flatten).append_left D)
  rw[←List.append_assoc]
  refine List.Perm.append_right _ ?_
  exact(List.perm_append_comm (l₁:=(p,HO.lst xs)::Cs.flatten) (l₂:=D)))
 have nd:=w3.nd
 simp only[fl,List.flatten_cons,List.flatten_nil,List.append_nil,List.cons_append,List.map_cons] at nd
 have n2:=(List.nodup_cons.mp nd).2
 rw[List.map_append] at n2
 exact(List.nodup_append.mp n2).1
theorem Um {ta ti:TE}{o:OE α}[MonoO o]{m:Rs α}{mi:Rs Int}{f:List α->Rs β}{v:V}{as:List α}{C:List Xy}(i k:Nat)(hσ:σ[i]?=some (some v))(hk':OO'[k]?=some C)(h:∀x,S.p x->oL o K x v as C)(he:Ev K Er S OO OO' σ ta o m)
  (hi:∀D,EvB K Er S (D::OO') σ ti Xa mi)
  (hr:∀bs C',Sv Er (S.addO K (oL o) v bs C') (OO'.set k C') σ u Fd (f bs)):Sv Er S OO σ (JC (Ei ta (Mw (F5 i) ti He)) u) Fd (m.bind λa=>mi.bind λj=>(Vd as j a).bind f):=λH D w s P=>
 he.st w s P λa y D' H' w' s' ho P'=>⟨v,hσ,(hi D').st w' s' P' λj z H2 s2 w2 q2 r2 P2=>by
  obtain⟨p,xs,Cs,e,q,c⟩:=h _ q2
  subst c
  have hH:H2 p=some (.lst xs):=w2.tr (p, .lst xs) (by rw[List.flatten_cons];exact List.mem_append_right _ (List.mem_flatten.mpr ⟨_,List.mem_of_getElem? hk',List.mem_cons_self⟩))
  cases es:Vd as j a with
  |bad=>rw[es] at P2;exact P2.elim
  |err x=>exact absurd es Hu
  |ok bs=>
   rw[es] at P2
   obtain⟨jj,h1,rfl⟩:=E6 es
   have hjl:jj<as.length:=by
    unfold ixN at h1
    split at h1
    ·split at h1
     ·cases h1;omega
     ·cases h1
    ·split at h1
     ·cases h1;omega
     ·cases h1
   have hjC:jj<Cs.length:=by rw[q.len.2];exact hjl
   have hp:=GO (Cs:=Cs) (j:=jj) (D:=D') hjC
   obtain⟨w3,m3⟩:=Mg (xs':=xs.set jj y) (Cs':=Cs.set jj D') w2 hk' (λc hc=>hp.mem_iff.mp (List.mem_append_left _ hc)) (ZP hp (J8 w2 hk'))
   refine⟨p,xs,j,jj,e,r2,hH,by rw[q.len.1];exact h1,hr _ _ _ D w3 ⟨S.mono _ _ m3 q2,⟨p,_,_,e,P3.imp (λ_ _ _ z=>MonoO.mono m3 z) (P3.set (MonoO.mono (Xh s2) ho) jj q),rfl⟩⟩ (PZ.tr (fd.tr D) m3 P2)⟩⟩
theorem HW {ta tb:TE}{r:Enc α}{q:Enc γ}[z:MonoE r][MonoE q]{ma:Rs α}{mb:Rs γ}{f:α->γ->Rs β}(i j:Nat)(ha:EvS K Er S OO σ ta r ma)(hb:EvS K Er S OO σ tb q mb)
  (hr:∀a b v w,Sv Er ((S.add K r v a).add K q w b) OO ((σ.set i (some v)).set j (some w)) u Fd (f a b)):Sv Er S OO σ (JC (MB i j (XO ta (XO tb Jf))) u) Fd (ma.bind λa=>mb.bind λb=>f a b):=λH D w s P=>
 ha.st w s P λa x H1 s1 w1 q1 r1 P1=>hb.st w1 q1 P1 λb y H2 s2 w2 q2 r2 P2=>⟨x,y,rfl,hr a b x y H2 D w2 ⟨⟨q2,z.mono (Xh s2) r1⟩,r2⟩ P2⟩
theorem Db {te:TE}{r:Enc α}{q:Enc γ}[MonoE r][MonoE q]{m:Rs (α×γ)}{f:α×γ->Rs β}(i j:Nat)(he:EvS K Er S OO σ te (rP2 r q) m)
  (hr:∀a v w,Sv Er ((S.add K r v a.1).add K q w a.2) OO ((σ.set i (some v)).set j (some w)) u Fd (f a)):Sv Er S OO σ (JC (Ei te (Bc K 2 (Zq (YU i) (Zq (YU j) B6)))) u) Fd (m.bind f):=λH D w s P=>
 he.st w s P λa v H1 s1 w1 q1 r9 P1=>by obtain⟨p,x,y,e,h,h1,h2⟩:=r9;exact⟨p,_,e,SqT.of (Xn _ _ h),rfl,x,[y],rfl,y,[],rfl,rfl,hr a x y H1 D w1 ⟨⟨q1,h1⟩,h2⟩ P1⟩
theorem Dx {te:TE}{g:Int->Int->Int}{m:Rs Int}{f:Int->Rs β}{v:V}{a:Int}(i:Nat)(hσ:σ[i]?=some (some v))(h:∀x,S.p x->Xa K x v a)(he:EvB K Er S OO σ te Xa m)
  (hr:∀b v,Sv Er (S.add K Xa v b) OO (σ.set i (some v)) u Fd (f b)):Sv Er S OO σ (JC (Lz i te (ipI g)) u) Fd (m.bind λb=>f (g a b)):=λH D w s P=>
 ⟨v,hσ,he.st w s P λb y H1 s1 w1 q1 r1 P1=>⟨a,b,h _ s,r1,hr _ _ H1 D w1 ⟨q1,rfl⟩ P1⟩⟩
theorem Fr {ta tb:TE}{ma mb:Rs Int}(ha:EvB K Er S OO σ ta Xa ma)(hb:EvB K Er S OO σ tb Xa mb):EvB K Er S OO σ (tCB (λxs H Q=>∃ i j:Int,xs=[.int i, .int j]/\Q (.int (if j > i then j else i)) H) (XO ta (XO tb Jf))) Xa (ma.bind λa=>mb.bind λb=>.ok (max a b)):=λH Q w s P=>
 ha.run w s FB.tr P λa x H1 s1 w1 q1 r1 P1=>hb.run w1 q1 FB.tr P1 λb y H2 s2 w2 q2 r2 P2=>⟨a,b,by rw[show x= .int a from r1,show y= .int b from r2],P2 _ H2 (Xr.refl _) (by show V.int _=V.int _;congr 1;omega)⟩
theorem EQ {ta:TE}{ma:Rs (List Int)}(ha:EvB K Er S OO σ ta (rV Xa) ma):EvB K Er S OO σ (tCB (Mv K) (XO ta Jf)) Xa (ma.bind λa=>.ok a.sum):=λH Q w s P=>
 ha.run w s FB.tr P λa x H1 s1 w1 q1 r9 P1=>by obtain⟨p,xs,e,q,pr⟩:=r9;exact⟨p,a,by rw[e],by rw[←Vl pr];exact SqL.of q,P1 _ H1 (Xr.refl _) rfl⟩
class TyE {α:Type}(r:Enc α)(n:outParam String):Prop where
 ty:∀{K:PySem.W.Frag}{H:Hp}{v:V}{a:α},r K H v a->TyOf K H v (.type n)
instance:TyE Xa "int":=⟨fun {K H v a} h=>by cases(show v= .int a from h);exact .int a⟩
instance:TyE XZ "bool":=⟨fun {K H v a} h=>by cases(show v= .bl a from h);exact .bl a⟩
instance {r:Enc α}:TyE (rV r) "list":=⟨λr9=>by obtain⟨p,xs,e,q,_⟩:=r9;exact by subst e;exact .lst q⟩
instance {r:Enc α}:TyE (rPL r) "tuple":=⟨λr9=>by obtain⟨p,xs,e,q,_⟩:=r9;exact by subst e;exact .tup q⟩
instance {r:Enc α}{q:Enc γ}:TyE (rP2 r q) "tuple":=⟨λr9=>by obtain⟨p,x,y,e,q,_⟩:=r9;exact by subst e;exact .tup q⟩
instance {r:Enc α}{q:Enc γ}{t:Enc δ}:TyE (rP3 r q t) "tuple":=⟨λr9=>by obtain⟨p,x,y,z,e,q,_⟩:=r9;exact by subst e;exact .tup q⟩
theorem VV {te:TE}{r:Enc α}{n:String}[z:TyE r n]{m:Rs α}(t:String)(b:Bool)(hk:PySem.W.kitOne K (.type n) (.type t)=some b)(he:EvB K Er S OO σ te r m):
  EvB K Er S OO σ (tCB (λxs H Q=>∃ x n t b,xs=[x, .ty n]/\TyOf K H x t/\PySem.W.kitOne K t (.type n)=some b/\Q (.bl b) H) (XO te (XO (tC (.ty t)) Jf))) XZ (m.bind λ_=>.ok b):=λH Q w s P=>
 he.run w s FB.tr P λa x H1 s1 w1 q1 r1 P1=>⟨x,t, .type n,b,rfl,z.ty r1,hk,P1 _ H1 (Xr.refl _) rfl⟩
end
section
variable {K:PySem.W.Frag}{Er:Exc->Hp->Prop}{S:SC}{OO OO' OO1 OO2:List (List Xy)}{σ:St}{α β γ ρ ι δ ε:Type}
variable {Fd:Ends->β->Hp->Prop}[fd:FdOk Fd]{u:TS}
theorem I9 (n:Nat)(H:Hp):W (List.replicate n []) H:=⟨λc hc=>(by rw[Y9] at hc;cases hc),(by unfold fl;rw[Y9];exact List.nodup_nil),λc hc=>(by rw[Y9] at hc;cases hc)⟩
theorem Bp (n:Nat)(H:Hp):hid H (List.replicate n [])=H:=by funext b;unfold hid fl;rw[Y9];simp
theorem Lh {o:OE ρ}[z:MonoO o]{Q:VK}{b:ρ}{H:Hp}(q:FF K o Q b H):∀v C OO' H',W (C::OO') H'->Xr H (hid H' (C::OO'))->o K (hid H' (C::OO')) v b C->Q v H':=λv C OO' H' w m ho=>by
 have hs:Xr (hid H' (C::OO')) (hid H' [C]):=Zo (Xr.refl _) λb hb=>by
  rw[XD]
  refine List.mem_append_left _ ?_
  simpa[fl] using hb
 exact q v C H' (w.sub (by simp)) (m.trans hs) (z.mono hs ho)
theorem Y8 {o:OE ρ}[MonoO o]{t:TS}{m:Rs ρ}{Q:VK}{b:ρ}{H:Hp}{D:Ends}(n:Nat)(h:Sv (λ_ _=>False) S (List.replicate n []) σ t (FTd K o) m)(hs:S.p H)(hm:m= .ok b)(q:FF K o Q b H)(hD:D.rt=Q):t D σ H:=by
 refine h H D (I9 n H) (by rw[Bp];exact hs) ?_
 subst hm
 rw[Bp]
 intro v C OO' H' w mm ho
 rw[hD]
 exact Lh q v C OO' H' w mm ho
noncomputable def oU:OE Unit:=λ_ _ v _ C=>v= .non/\C=[]
instance:MonoO oU:=⟨λ_ h=>h⟩
instance:FlatO oU:=⟨λ_ h=>h⟩
noncomputable def rU0:Enc Unit:=λ_ _ v _=>v= .non
instance:FlatE rU0:=⟨λ_ h=>h⟩
instance:FrzC oU rU0:=⟨λh _ _=>h.1⟩
theorem Me {J:Jn Unit ι}{t:TS}{m:Rs Unit}{Q:VK}{b:Unit}{H:Hp}{D:Ends}(n:Nat)(h:Sv (λ_ _=>False) S (List.replicate n []) σ t (FNd J) m)(hs:S.p H)(hm:m= .ok b)(q:FF K oU Q b H)(hD:∀σ H,D.nx σ H=Q .non H):t D σ H:=by
 refine h H D (I9 n H) (by rw[Bp];exact hs) ?_
 subst hm
 rw[Bp]
 intro x H' w mm ho
 rw[hD]
 have hs:Xr (hid H' (J.oo x)) (hid H' [[]]):=Zo (Xr.refl _) λb hb=>by simp[fl] at hb
 exact q .non [] H' ⟨λc hc=>by simp at hc,by simp[fl],λc hc=>by simp at hc⟩ (mm.trans hs) ⟨rfl,rfl⟩
theorem EN {t:TS}{m:Rs β}(k:Nat)(hr:Sv Er S (OO.set k []) σ t Fd m):Sv Er S OO σ t Fd m:=λH D w s P=>by
 cases hk:OO[k]? with
 |none=>
  rw[List.set_eq_of_length_le (List.getElem?_eq_none_iff.mp hk)] at hr
  exact hr H D w s P
 |some C=>
  have hp:=XF hk
  have w1:W (C::OO.set k []) H:=w.of hp
  have hs:Xr (hid H OO) (hid H (OO.set k [])):=by
   rw[←Xx hp]
   exact Zo (Xr.refl _) λb hb=>by rw[XD];simp[hb]
  exact hr H D w1.tail (S.mono _ _ hs s) (PZ.tr (fd.tr D) hs P)
theorem EI {te:TE}{r:Enc α}{m:Rs α}{f:Rs β}(he:EvB K Er S OO σ te r m)(hr:Sv Er S OO σ u Fd f):Sv Er S OO σ (JC (Bb te) u) Fd (m.bind λ_=>f):=λH D w s P=>
 he.st w s P λa v H' s1 w' s' ho P'=>hr H' D w' s' P'
noncomputable def FAO {α:Type}(K:PySem.W.Frag)(OO OO':List (List Xy))(o:OE α)(Q:List V->Hp->Prop)(as:List α)(H:Hp):Prop:=∀ vs Cs H',Xr H H'->W (Cs.flatten::OO') H'->Xr (hid H OO) (hid H' (Cs.flatten::OO'))->P3 (o K (hid H' (Cs.flatten::OO'))) vs as Cs->Q vs H'
noncomputable def LF {α:Type}(K:PySem.W.Frag)(Er:Exc->Hp->Prop)(S:SC)(OO OO':List (List Xy))(σ:St)(t:TA)(o:OE α)(m:Rs (List α)):Prop:=∀ H Q,W OO H->S.p (hid H OO)->PZ Er (FAO K OO OO' o Q) H m->t σ H Q
theorem BR {o:OE α}:LF K Er S OO OO σ Jf o (.ok []):=λH Q w s P=>P [] [] H (Xr.refl _) w.nil (by show Xr _ (hid H ([]::OO));rw[Z0];exact Xr.refl _) .nil
theorem Dr {te:TE}{t:TA}{o:OE α}[z:MonoO o]{m:Rs α}{n:Rs (List α)}(he:Ev K Er S OO OO1 σ te o m)(ht:∀C,LF K Er S (C::OO1) (C::OO2) σ t o n):LF K Er S OO OO2 σ (XO te t) o (m.bind λa=>n.bind λas=>.ok (a::as)):=λH Q w s P=>by
 refine he H _ w s ?_
 cases em:m with
 |bad=>rw[em] at P;exact P
 |err x=>rw[em] at P;exact P
 |ok a=>
  rw[em] at P
  intro v C H1 s1 w1 m1 ho
  refine ht C H1 _ w1 (S.mono _ _ m1 s) ?_
  have P1:PZ Er (FAO K OO OO2 o Q) H (n.bind λas=>.ok (a::as)):=P
  cases en:n with
  |bad=>rw[en] at P1;exact P1
  |err x=>rw[en] at P1;exact λH2 s2=>P1 H2 (s1.trans s2)
  |ok as=>
   rw[en] at P1
   have P1:FAO K OO OO2 o Q (a::as) H:=P1
   intro vs Cs H2 s2 w2 m2 pr
   have pe:((C::Cs).flatten::OO2).flatten.Perm (Cs.flatten::C::OO2).flatten:=by
    simp only[List.flatten_cons]
    rw[←List.append_assoc]
    exact List.perm_append_comm.append_right _
   refine P1 (v::vs) (C::Cs) H2 (s1.trans s2) (w2.of pe) ?_ ?_
   ·rw[Xx pe];exact m1.trans m2
   ·rw[Xx pe];exact .cons (z.mono m2 ho) pr
class InE {α:Type}[DecidableEq α](r:Enc α):Prop where
 fl:∀{K:PySem.W.Frag}{H:Hp}{x:V}{a:α},r K H x a->JJ x=true
 eq:∀{K:PySem.W.Frag}{H H':Hp}{x y:V}{a b:α},r K H x a->r K H' y b->eqV x y=decide (a=b)
instance:InE Xa:=⟨fun {K H x a} h=>by cases(show x= .int a from h);rfl,fun {K H H' x y a b} h h'=>by
 cases(show x= .int a from h);cases(show y= .int b from h');show(a==b)=_;rw[CY]⟩
theorem Vg [DecidableEq α]{r:Enc α}[z:InE r]{H H':Hp}{x:V}{a:α}(hx:r K H x a):∀{xs:List V}{as:List α},Paired (r K H') xs as->xs.all JJ=true/\inV x xs=decide (a∈as)
 |_,_, .nil=>⟨rfl,by simp[inV]⟩
 |_,_, .cons h t=>by
  obtain⟨h1,h2⟩:=Vg hx t
  refine⟨by rw[List.all_cons,h1,z.fl h];rfl,?_⟩
  unfold inV at h2⊢
  rw[List.any_cons,h2,z.eq h hx,Bool.eq_iff_iff,Bool.or_eq_true,decide_eq_true_eq,decide_eq_true_eq,decide_eq_true_eq,List.mem_cons]
  exact or_congr ⟨Eq.symm,Eq.symm⟩ Iff.rfl
theorem Lo [DecidableEq α]{ta tb:TE}{r:Enc α}[z:InE r]{ma:Rs α}{mb:Rs (List α)}(ha:EvB K Er S OO σ ta r ma)(hb:EvB K Er S OO σ tb (rV r) mb):EvB K Er S OO σ (tOp (rIn K false) ta tb) XZ (ma.bind λa=>mb.bind λas=>.ok (decide (a∈as))):=λH Q w s P=>
 ha.run w s FB.tr P λa x H1 s1 w1 q1 r1 P1=>hb.run w1 q1 FB.tr P1 λb y H2 s2 w2 q2 ⟨p,xs,e,q,pr⟩ P2=>by
  obtain⟨h1,h2⟩:=Vg r1 pr
  exact⟨p,xs,e, .inl (SqL.of q),z.fl r1,h1,P2 _ H2 (Xr.refl _) (by rw[h2];rfl)⟩
noncomputable def Ea [DecidableEq α](as:List α)(a:α):Rs Int:=match as.findIdx? (λb=>decide (b=a)) with
 |some j=>.ok (j:Int)
 |none=>.bad
theorem G0 [DecidableEq α]{r:Enc α}[z:InE r]{H H':Hp}{x:V}{a:α}(hx:r K H x a){xs:List V}{as:List α}(p:Paired (r K H') xs as){j:Nat}(hj:as.findIdx? (λb=>decide (b=a))=some j):
  (∃y,xs[j]?=some y/\eqV y x=true)/\∀(m:Nat) y,m<j->xs[m]?=some y->eqV y x=false:=by
 rw[List.findIdx?_eq_some_iff_getElem] at hj
 obtain⟨h1,h2,h3⟩:=hj
 constructor
 ·obtain⟨y,hy,ry⟩:=Paired.getR p (i:=j) (b:=as[j]) (by simp[h1])
  exact⟨y,hy,by rw[z.eq ry hx];exact h2⟩
 ·intro m y hm hy
  obtain⟨b,hb,rb⟩:=Paired.getL p hy
  have hml:m<as.length:=by omega
  have e:b=as[m]:=by rw[List.getElem?_eq_getElem hml] at hb;exact(Option.some.inj hb).symm
  rw[z.eq rb hx,e]
  have:=h3 m hm
  simpa using this
theorem HE [DecidableEq α]{as:List α}{a:α}{x:Exc}:Ea as a≠ .err x:=by unfold Ea;split<;> exact λz=>nomatch z
theorem Ex [DecidableEq α]{as:List α}{a:α}{n:Int}(h:Ea as a= .ok n):∃j:Nat,as.findIdx? (λb=>decide (b=a))=some j/\n=j:=by
 unfold Ea at h;split at h
 ·cases h;exact⟨_,by assumption,rfl⟩
 ·cases h
theorem Dh [DecidableEq α]{ta tb:TE}{r:Enc α}[z:InE r][y:MonoE r]{ma:Rs (List α)}{mb:Rs α}(ha:EvB K Er S OO σ ta (rV r) ma)(hb:EvB K Er S OO σ tb r mb):EvB K Er S OO σ (tBM K "list" (Co K) ta (XO tb Jf)) Xa (ma.bind λas=>mb.bind λa=>Ea as a):=λH Q w s P=>
 ha.run w s FB.tr P λas x H1 s1 w1 q1 ⟨p,xs,e,q,pr⟩ P1=>⟨by rw[e];exact .inl ⟨rfl,_,SqL.of q⟩,hb.run w1 q1 FB.tr P1 λb v H2 s2 w2 q2 r2 P2=>by
  obtain⟨c,hc,P3⟩:=P2.okOf λx=>HE
  obtain⟨j,hj,rfl⟩:=Ex hc
  have pr2:=Paired.imp2 (G:=r K H2) (λ_ _ h=>y.mono s2 h) pr
  obtain⟨h1,h2⟩:=G0 r2 pr2 hj
  exact⟨p,xs,v,j,e,rfl,SqL.of (s2 _ _ q),z.fl r2,(Vg r2 pr2).1,h1,h2,P3 _ H2 (Xr.refl _) rfl⟩⟩
end
section
variable {K:PySem.W.Frag}{Er:Exc->Hp->Prop}{S:SC}{OO OO' OO1 OO2:List (List Xy)}{σ:St}{α β γ ρ ι δ ε:Type}
variable {Fd:Ends->β->Hp->Prop}[fd:FdOk Fd]{u:TS}
theorem QR {ta tb:TE}{o:OE α}{q:OE β}[z:MonoO o][y:MonoO q]{ma:Rs α}{mb:Rs β}(ha:Ev K Er S OO OO1 σ ta o ma)(hb:∀C,Ev K Er S (C::OO1) (C::OO2) σ tb q mb):Ev K Er S OO OO2 σ (HM (XO ta (XO tb Jf))) (oT2 o q) (ma.bind λa=>mb.bind λb=>.ok (a,b)):=λH Q w s P=>by
 refine ha H _ w s ?_
 cases em:ma with
 |bad=>rw[em] at P;exact P
 |err x=>rw[em] at P;exact P
 |ok a=>
  rw[em] at P
  intro v C H1 s1 w1 m1 ho
  refine hb C H1 _ w1 (S.mono _ _ m1 s) ?_
  have P1:PZ Er (FO K OO OO2 (oT2 o q) Q) H (mb.bind λb=>.ok (a,b)):=P
  cases en:mb with
  |bad=>rw[en] at P1;exact P1
  |err x=>rw[en] at P1;exact λH2 s2=>P1 H2 (s1.trans s2)
  |ok b=>
   rw[en] at P1
   have P1:FO K OO OO2 (oT2 o q) Q (a,b) H:=P1
   intro v2 C2 H2 s2 w2 m2 ho2
   refine⟨by show 2<=sizeLine;decide,λp hp=>?_⟩
   have pe:((C++C2)::OO2).flatten.Perm (C2::C::OO2).flatten:=by
    simp only[List.flatten_cons]
    rw[←List.append_assoc]
    exact List.perm_append_comm.append_right _
   have s3:Xr H2 (upd H2 p (.tup [v,v2])):=Xz hp _
   have w3:=(w2.keep s3).of pe
   have m3:Xr (hid H2 (C2::C::OO2)) (hid (upd H2 p (.tup [v,v2])) ((C++C2)::OO2)):=by rw[Xx pe];exact Xh s3
   refine P1 (.ref p) (C++C2) _ (s1.trans (s2.trans s3)) w3 (m1.trans (m2.trans m3)) ⟨p,v,v2,C,C2,rfl,?_,z.mono (m2.trans m3) ho,y.mono m3 ho2,rfl⟩
   rw[Xx pe]
   exact Zv w2 hp
theorem B3 {c:TT}{t1:TS}{mc:Rs Bool}{m2:Rs β}(hc:EvT Er S OO σ c mc)(h2:Sv Er S OO σ u Fd m2):Sv Er S OO σ (JC (HJ c t1 GU) u) Fd (mc.bind λb=>if b=true then .bad else m2):=λH D w s P=>
 hc.st w s P λb H' w' s' P'=>by
  cases b with
  |true=>rw[if_pos rfl] at P';exact P'.elim
  |false=>exact h2 H' D w' s' P'
theorem IA {as:List α}{i:Int}{a:α}(h:atR as i= .ok a):∃k,ixN as.length i=some k/\as[k]?=some a:=by
 have:=Gw h
 unfold atI at this
 cases e:ixN as.length i with
 |none=>rw[e] at this;cases this
 |some k=>rw[e] at this;exact⟨k,rfl,this⟩
theorem LR {H H':Hp}{C D:List Xy}{k:Nat}(w:W OO H)(hk:OO[k]?=some C)(s:Xr H H')(w':W (D::OO.set k []) H')(m:Xr (hid H (OO.set k [])) (hid H' (D::OO.set k []))):
  W (D::OO) H'/\Xr (hid H OO) (hid H' (D::OO))/\VL (hid H' (D::OO.set k [])) (hid H' (D::OO)):=by
 have hp:=XF hk
 have wk:W (C::OO.set k []) H:=w.of hp
 have hC:∀c∈C,hid H (OO.set k []) c.1=some c.2:=λc hc=>YM (wk.cell c hc) (by
  have:=wk.nd
  rw[XD] at this
  exact λhb=>(List.nodup_append.mp this).2.2 c.1 (List.mem_map.mpr ⟨c,hc,rfl⟩) c.1 hb rfl)
 have hC':∀c∈C,H' c.1=some c.2/\c.1∉fl (D::OO.set k []):=λc hc=>XI (m _ _ (hC c hc))
 have w2:W (C::D::OO.set k []) H':=by
  refine⟨λc hc=>?_,?_,λc hc=>?_⟩
  ·rw[List.flatten_cons,List.mem_append] at hc
   exact hc.elim (λhc=>(hC' c hc).1) λhc=>w'.tr c hc
  ·rw[XD]
   refine List.nodup_append.mpr ⟨?_,w'.nd,λa ha b hb e=>?_⟩
   ·have:=wk.nd
    rw[XD] at this
    exact(List.nodup_append.mp this).1
   ·obtain⟨c,hc,rfl⟩:=List.mem_map.mp ha
    subst e
    exact(hC' c hc).2 hb
  ·rw[List.flatten_cons,List.mem_append] at hc
   exact hc.elim (λhc=>wk.mu c (by simp[hc])) λhc=>w'.mu c hc
 have pe:(D::OO).flatten.Perm (C::D::OO.set k []).flatten:=by
  simp only[List.flatten_cons]
  refine List.Perm.trans (List.Perm.append_left D (by simpa using hp.symm:OO.flatten.Perm (C++(OO.set k []).flatten))) ?_
  rw[←List.append_assoc, ←List.append_assoc]
  exact List.perm_append_comm.append_right _
 have w3:=w2.of pe
 refine⟨w3,λb u q=>?_,λb u q i=>w3.i b u (XI q).1 i⟩
 obtain⟨q1,q2⟩:=XI q
 have q3:hid H (OO.set k []) b=some u:=YM q1 λz=>q2 ((Qg hp b).mp (by rw[XD];simp[z]))
 obtain⟨q4,q5⟩:=XI (m _ _ q3)
 refine YM q4 λz=>?_
 have z2:=(Qg pe b).mp z
 rw[XD,List.mem_append] at z2
 rcases z2 with z2 |z2
 ·exact q2 ((Qg hp b).mp (by rw[XD];exact List.mem_append_left _ z2))
 ·exact q5 z2
theorem LY {r1:Enc γ}{o1:OE γ}[z:FrzC o1 r1][MonoE r1]{H:Hp}{v:V}{a:γ}{C:List Xy}{k:Nat}(w:W OO H)(hk:OO[k]?=some C)(s:S.p (hid H OO))(h:∀x,S.p x->o1 K x v a C):
  W (OO.set k []) H/\(S.add K r1 v a).p (hid H (OO.set k [])):=by
 have hp:=XF hk
 have wk:W (C::OO.set k []) H:=w.of hp
 have hs:Xr (hid H OO) (hid H (OO.set k [])):=by
  rw[←Xx hp]
  exact Zo (Xr.refl _) λb hb=>by rw[XD];simp[hb]
 refine⟨wk.tail,S.mono _ _ hs s,z.frz (h _ s) hs λc hc=>YM (wk.cell c hc) ?_⟩
 have:=wk.nd
 rw[XD] at this
 exact λhb=>(List.nodup_append.mp this).2.2 c.1 (List.mem_map.mpr ⟨c,hc,rfl⟩) c.1 hb rfl
theorem K6 {te:TE}{o:OE α}[y:FlatO o]{r1:Enc γ}{o1:OE γ}[FrzC o1 r1][MonoE r1]{m:Rs α}{v:V}{a:γ}{C:List Xy}(k:Nat)(hk:OO[k]?=some C)(h:∀x,S.p x->o1 K x v a C)(he:Ev K Er (S.add K r1 v a) (OO.set k []) (OO.set k []) σ te o m):Ev K Er S OO OO σ te o m:=λH Q w s P=>by
 obtain⟨w1,s1⟩:=LY (r1:=r1) w hk s h
 refine he H Q w1 s1 (P.imp λb _ hb v' D H' s' w' m' ho=>?_)
 obtain⟨w3,m3,i3⟩:=LR w hk s' w' m'
 exact hb v' D H' s' w3 m3 (y.flat i3 ho)
theorem Ba (K:PySem.W.Frag)(T:String):PySem.W.kitOne K (.type T) (.type T)=some true:=by
 unfold PySem.W.kitOne
 rw[if_pos (beq_self_eq_true _)]
theorem UX (K:PySem.W.Frag):PySem.W.kitOne K (.type "int") (.type "bool")=some false:=by
 first
  |rfl
  |decide+kernel
  | (unfold PySem.W.kitOne PySem.W.kitCls;rfl)
end
section
variable {K:PySem.W.Frag}{Er:Exc->Hp->Prop}{S:SC}{OO OO' OO1 OO2:List (List Xy)}{σ:St}{α β γ ρ ι δ ε:Type}
variable {Fd:Ends->β->Hp->Prop}[fd:FdOk Fd]{u:TS}
end
section
variable {K:PySem.W.Frag}{Er:Exc->Hp->Prop}{S:SC}{OO OO' OO1 OO2:List (List Xy)}{σ:St}{α β γ ρ ι δ ε:Type}
variable {α1 α2 α3 α4 α5:Type}
noncomputable def rP4 (r1:Enc α1)(r2:Enc α2)(r3:Enc α3)(r4:Enc α4):Enc (α1×α2×α3×α4):=λK H v p=>∃ a x1 x2 x3 x4,v= .ref a/\H a=some (.tup [x1,x2,x3,x4])/\r1 K H x1 p.1/\r2 K H x2 p.2.1/\r3 K H x3 p.2.2.1/\r4 K H x4 p.2.2.2
instance {r1:Enc α1}{r2:Enc α2}{r3:Enc α3}{r4:Enc α4}[m1:MonoE r1][m2:MonoE r2][m3:MonoE r3][m4:MonoE r4]:MonoE (rP4 r1 r2 r3 r4):=⟨λs r9=>by obtain⟨a,x1,x2,x3,x4,e,h,p1,p2,p3,p4⟩:=r9;exact⟨a,x1,x2,x3,x4,e,s _ _ h,m1.mono s p1,m2.mono s p2,m3.mono s p3,m4.mono s p4⟩⟩
instance {r1:Enc α1}{r2:Enc α2}{r3:Enc α3}{r4:Enc α4}[m1:FlatE r1][m2:FlatE r2][m3:FlatE r3][m4:FlatE r4]:FlatE (rP4 r1 r2 r3 r4):=⟨λs r9=>by obtain⟨a,x1,x2,x3,x4,e,h,p1,p2,p3,p4⟩:=r9;exact⟨a,x1,x2,x3,x4,e,s _ _ h rfl,m1.flat s p1,m2.flat s p2,m3.flat s p3,m4.flat s p4⟩⟩
instance {r1:Enc α1}{r2:Enc α2}{r3:Enc α3}{r4:Enc α4}:TyE (rP4 r1 r2 r3 r4) "tuple":=⟨λr9=>by obtain⟨p,x1,x2,x3,x4,e,q,_⟩:=r9;exact by subst e;exact .tup q⟩
@[reducible] noncomputable def tg4 {r1:Enc α1}{r2:Enc α2}{r3:Enc α3}{r4:Enc α4}[MonoE r1][MonoE r2][MonoE r3][MonoE r4](i1 i2 i3 i4:Nat):Tgt K OO (Bc K 4 (Zq (YU i1) (Zq (YU i2) (Zq (YU i3) (Zq (YU i4) B6))))) (rP4 r1 r2 r3 r4) (V×V×V×V) where
 set:=λv σ=>((((σ.set i1 (some v.1)).set i2 (some v.2.1)).set i3 (some v.2.2.1)).set i4 (some v.2.2.2))
 sc:=λa v S=>((((S.add K r1 v.1 a.1).add K r2 v.2.1 a.2.1).add K r3 v.2.2.1 a.2.2.1).add K r4 v.2.2.2 a.2.2.2)
 ok:=fun {H v a σ S Q} r9 hs hq=>by obtain⟨p,x1,x2,x3,x4,e,h,h1,h2,h3,h4⟩:=r9;exact⟨p,_,e,SqT.of (Xn _ _ h),rfl,x1,[x2,x3,x4],rfl,x2,[x3,x4],rfl,x3,[x4],rfl,x4,[],rfl,rfl,hq (x1,x2,x3,x4) ⟨⟨⟨⟨hs,h1⟩,h2⟩,h3⟩,h4⟩⟩
noncomputable def rP5 (r1:Enc α1)(r2:Enc α2)(r3:Enc α3)(r4:Enc α4)(r5:Enc α5):Enc (α1×α2×α3×α4×α5):=λK H v p=>∃ a x1 x2 x3 x4 x5,v= .ref a/\H a=some (.tup [x1,x2,x3,x4,x5])/\r1 K H x1 p.1/\r2 K H x2 p.2.1/\r3 K H x3 p.2.2.1/\r4 K H x4 p.2.2.2.1/\r5 K H x5 p.2.2.2.2
instance {r1:Enc α1}{r2:Enc α2}{r3:Enc α3}{r4:Enc α4}{r5:Enc α5}[m1:MonoE r1][m2:MonoE r2][m3:MonoE r3][m4:MonoE r4][m5:MonoE r5]:MonoE (rP5 r1 r2 r3 r4 r5):=⟨λs r9=>by obtain⟨a,x1,x2,x3,x4,x5,e,h,p1,p2,p3,p4,p5⟩:=r9;exact⟨a,x1,x2,x3,x4,x5,e,s _ _ h,m1.mono s p1,m2.mono s p2,m3.mono s p3,m4.mono s p4,m5.mono s p5⟩⟩
instance {r1:Enc α1}{r2:Enc α2}{r3:Enc α3}{r4:Enc α4}{r5:Enc α5}[m1:FlatE r1][m2:FlatE r2][m3:FlatE r3][m4:FlatE r4][m5:FlatE r5]:FlatE (rP5 r1 r2 r3 r4 r5):=⟨λs r9=>by obtain⟨a,x1,x2,x3,x4,x5,e,h,p1,p2,p3,p4,p5⟩:=r9;exact⟨a,x1,x2,x3,x4,x5,e,s _ _ h rfl,m1.flat s p1,m2.flat s p2,m3.flat s p3,m4.flat s p4,m5.flat s p5⟩⟩
instance {r1:Enc α1}{r2:Enc α2}{r3:Enc α3}{r4:Enc α4}{r5:Enc α5}:TyE (rP5 r1 r2 r3 r4 r5) "tuple":=⟨λr9=>by obtain⟨p,x1,x2,x3,x4,x5,e,q,_⟩:=r9;exact by subst e;exact .tup q⟩
theorem BC {t1:TE}{t2:TE}{t3:TE}{t4:TE}{t5:TE}{r1:Enc α1}{r2:Enc α2}{r3:Enc α3}{r4:Enc α4}{r5:Enc α5}[z1:MonoE r1][z2:MonoE r2][z3:MonoE r3][z4:MonoE r4][z5:MonoE r5]{m1:Rs α1}{m2:Rs α2}{m3:Rs α3}{m4:Rs α4}{m5:Rs α5}(h1:EvS K Er S OO σ t1 r1 m1)(h2:EvS K Er S OO σ t2 r2 m2)(h3:EvS K Er S OO σ t3 r3 m3)(h4:EvS K Er S OO σ t4 r4 m4)(h5:EvS K Er S OO σ t5 r5 m5):EvS K Er S OO σ (HM (XO t1 (XO t2 (XO t3 (XO t4 (XO t5 Jf)))))) (rP5 r1 r2 r3 r4 r5) (m1.bind λa1=>m2.bind λa2=>m3.bind λa3=>m4.bind λa4=>m5.bind λa5=>.ok (a1,a2,a3,a4,a5)):=λH Q w s P=>
 h1.run w s FS.tr P λa1 y1 H1 s1 w1 u1 q1 P1=>h2.run w1 u1 FS.tr P1 λa2 y2 H2 s2 w2 u2 q2 P2=>h3.run w2 u2 FS.tr P2 λa3 y3 H3 s3 w3 u3 q3 P3=>h4.run w3 u3 FS.tr P3 λa4 y4 H4 s4 w4 u4 q4 P4=>h5.run w4 u4 FS.tr P4 λa5 y5 H5 s5 w5 u5 q5 P5=>⟨by show 5<=sizeLine;decide,λp hp=>P5 _ _ (Xz hp _) ⟨p,y1,y2,y3,y4,y5,rfl,Zv w5 hp,z1.mono ((Xh s2).trans ((Xh s3).trans ((Xh s4).trans ((Xh s5).trans (Xh (Xz hp _)))))) q1,z2.mono ((Xh s3).trans ((Xh s4).trans ((Xh s5).trans (Xh (Xz hp _))))) q2,z3.mono ((Xh s4).trans ((Xh s5).trans (Xh (Xz hp _)))) q3,z4.mono ((Xh s5).trans (Xh (Xz hp _))) q4,z5.mono (Xh (Xz hp _)) q5⟩⟩
@[reducible] noncomputable def tg5 {r1:Enc α1}{r2:Enc α2}{r3:Enc α3}{r4:Enc α4}{r5:Enc α5}[MonoE r1][MonoE r2][MonoE r3][MonoE r4][MonoE r5](i1 i2 i3 i4 i5:Nat):Tgt K OO (Bc K 5 (Zq (YU i1) (Zq (YU i2) (Zq (YU i3) (Zq (YU i4) (Zq (YU i5) B6)))))) (rP5 r1 r2 r3 r4 r5) (V×V×V×V×V) where
 set:=λv σ=>(((((σ.set i1 (some v.1)).set i2 (some v.2.1)).set i3 (some v.2.2.1)).set i4 (some v.2.2.2.1)).set i5 (some v.2.2.2.2))
 sc:=λa v S=>(((((S.add K r1 v.1 a.1).add K r2 v.2.1 a.2.1).add K r3 v.2.2.1 a.2.2.1).add K r4 v.2.2.2.1 a.2.2.2.1).add K r5 v.2.2.2.2 a.2.2.2.2)
 ok:=fun {H v a σ S Q} r9 hs hq=>by obtain⟨p,x1,x2,x3,x4,x5,e,h,h1,h2,h3,h4,h5⟩:=r9;exact⟨p,_,e,SqT.of (Xn _ _ h),rfl,x1,[x2,x3,x4,x5],rfl,x2,[x3,x4,x5],rfl,x3,[x4,x5],rfl,x4,[x5],rfl,x5,[],rfl,rfl,hq (x1,x2,x3,x4,x5) ⟨⟨⟨⟨⟨hs,h1⟩,h2⟩,h3⟩,h4⟩,h5⟩⟩
theorem EF {ta:TE}{r1:Enc α1}{r2:Enc α2}{r3:Enc α3}{m:Rs (α1×α2×α3)}(ha:EvS K Er S OO σ ta (rP3 r1 r2 r3) m):EvS K Er S OO σ (tOp (E1 K) ta (tC (.int 0))) r1 (m.bind λp=>.ok p.1):=λH Q w s P=>
 ha.run w s FS.tr P λa x H1 s1 w1 q1 r9 P1=>by obtain⟨p,x1,x2,x3,e,q,h1,h2,h3⟩:=r9;exact⟨p,_,0,x1,e,rfl,SqT.of (Xn _ _ q),rfl,P1 _ H1 (Xr.refl _) h1⟩
noncomputable def rDP {α:Type}(r:Enc α)(K:PySem.W.Frag)(H:Hp)(kv:Key×V)(kx:Int×α):Prop:=kv.1= .inl kx.1/\r K H kv.2 kx.2
noncomputable def rD {α:Type}(r:Enc α):Enc (List (Int×α)):=λK H v d=>∃ p kvs,v= .ref p/\H p=some (.dK kvs)/\Paired (rDP r K H) kvs d
noncomputable def oD {α:Type}(r:Enc α):OE (List (Int×α)):=λK h v d C=>∃ p kvs,v= .ref p/\Paired (rDP r K h) kvs d/\C=[(p, .dK kvs)]
instance {r:Enc α}[m:MonoE r]:MonoE (rD r):=⟨λs r9=>by obtain⟨p,kvs,e,q,pr⟩:=r9;exact⟨p,kvs,e,s _ _ q,Paired.imp2 (λ_ _ z=>⟨z.1,m.mono s z.2⟩) pr⟩⟩
instance {r:Enc α}[m:MonoE r]:MonoO (oD r):=⟨λs r9=>by obtain⟨p,kvs,e,pr,c⟩:=r9;exact⟨p,kvs,e,Paired.imp2 (λ_ _ z=>⟨z.1,m.mono s z.2⟩) pr,c⟩⟩
instance {r:Enc α}[m:FlatE r]:FlatO (oD r):=⟨λs r9=>by obtain⟨p,kvs,e,pr,c⟩:=r9;exact⟨p,kvs,e,Paired.imp2 (λ_ _ z=>⟨z.1,m.flat s z.2⟩) pr,c⟩⟩
instance {r:Enc α}[m:MonoE r]:FrzC (oD r) (rD r):=⟨λr9 s hc=>by obtain⟨p,kvs,e,pr,c⟩:=r9;exact⟨p,kvs,e,hc (p, .dK kvs) (by rw[c];simp),Paired.imp2 (λ_ _ z=>⟨z.1,m.mono s z.2⟩) pr⟩⟩
noncomputable def JG (d:List (Int×α))(k:Int):Option α:=(d.find? λkv=>decide (kv.1=k)).map (·.2)
noncomputable def Ff (d:List (Int×α))(k:Int)(v:α):List (Int×α):=if(d.any λkv=>decide (kv.1=k))=true then d.map (λkv=>if kv.1=k then(kv.1,v) else kv) else d++[(k,v)]
theorem Vk {r:Enc α}{H:Hp}{k:Int}:∀{kvs:List (Key×V)}{d:List (Int×α)},Paired (rDP r K H) kvs d->(∀a,JG d k=some a->∃v,KH kvs (.inl k)=some v/\r K H v a)/\(KH kvs (.inl k)).isSome=(JG d k).isSome
 |_,_, .nil=>⟨λa h=>(by cases h),rfl⟩
 |kv::kvs,kx::d, .cons h t=>by
  obtain⟨h1,h2⟩:=Vk (k:=k) t
  by_cases e:kx.1=k
  ·have e2:kv.1= .inl k:=by rw[h.1,e]
   rw[JR e2]
   have e3:JG (kx::d) k=some kx.2:=by simp[JG,List.find?_cons,e]
   rw[e3]
   exact⟨λa ha=>by cases ha;exact⟨_,rfl,h.2⟩,rfl⟩
  ·have e2:¬kv.1= .inl k:=by rw[h.1];exact λz=>e (Sum.inl.inj z)
   rw[JN e2]
   have e3:JG (kx::d) k=JG d k:=by simp[JG,List.find?_cons,e]
   rw[e3]
   exact⟨h1,h2⟩
theorem VW {r:Enc α}{H:Hp}{k:Int}:∀{kvs:List (Key×V)}{d:List (Int×α)},Paired (rDP r K H) kvs d->(kvs.any λkv=>decide (kv.1= .inl k))=d.any λkx=>decide (kx.1=k)
 |_,_, .nil=>rfl
 |kv::kvs,kx::d, .cons h t=>by
  rw[List.any_cons,List.any_cons,VW t,h.1]
  congr 1
  rw[Bool.eq_iff_iff];simp
theorem K4 {r:Enc α}{H:Hp}{k:Int}{v:V}{a:α}(hv:r K H v a){kvs:List (Key×V)}{d:List (Int×α)}(h:Paired (rDP r K H) kvs d):Paired (rDP r K H) (KC kvs (.inl k) v) (Ff d k a):=by
 unfold KC Ff
 rw[VW h]
 by_cases e:(d.any λkx=>decide (kx.1=k))=true
 ·rw[if_pos e,if_pos e]
  clear e
  induction h with
  |nil=>exact .nil
  | @cons kv kx l m h t ih=>
   refine .cons ?_ ih
   show rDP r K H (if kv.1= .inl k then(kv.1,v) else kv) (if kx.1=k then(kx.1,a) else kx)
   by_cases e:kx.1=k
   ·rw[if_pos (show kv.1= .inl k by rw[h.1,e]),if_pos e];exact⟨h.1,hv⟩
   ·rw[if_neg (show ¬kv.1= .inl k by rw[h.1];exact λz=>e (Sum.inl.inj z)),if_neg e];exact h
 ·rw[if_neg e,if_neg e]
  exact Paired.app h (.cons ⟨rfl,hv⟩ .nil)
theorem BE {td ty:TE}{r:Enc α}{md:Rs (List (Int×α))}{mk:Rs Int}(hk:EvB K Er S OO σ ty Xa mk)(hd:EvB K Er S OO σ td (rD r) md):EvB K Er S OO σ (FX ty td) XZ (mk.bind λk=>md.bind λd=>.ok (!(JG d k).isSome)):=λH Q w s P=>
 hk.run w s FB.tr P λk y H1 s1 w1 q1 r1 P1=>hd.run w1 q1 FB.tr P1 λd x H2 s2 w2 q2 r9 P2=>by obtain⟨p,kvs,e,q,pr⟩:=r9;exact⟨p,KH kvs (.inl k),e, .inl ⟨kvs, .inl k, .inl q,r1,rfl⟩,P2 _ H2 (Xr.refl _) (by rw[(Vk (k:=k) pr).2];rfl)⟩
variable {Fd:Ends->β->Hp->Prop}[fd:FdOk Fd]{u:TS}
end
theorem YH.ex {P:Program}{w:World}{H:Hp}{h:Heap}{a:Addr}{o:HO}(x:YH P w H h a o):∃u,h.get? a=some u:=by
 cases o with
 |lst xs=>obtain⟨_,_,_,_,e⟩:=x;exact⟨_,e⟩
 |tup xs=>obtain⟨_,_,_,p⟩:=x;obtain⟨o,e,_⟩:=p;exact⟨_,e⟩
 |dK kvs=>obtain⟨_,_,_,_,o,_,_,e,_⟩:=x;exact⟨_,e⟩
 |dT kvs=>obtain⟨_,_,_,_,o,_,_,e,_⟩:=x;exact⟨_,e⟩
 |set S n=>obtain⟨o,_,_,_,e,_⟩:=x;exact⟨_,e⟩
 |ins C dx fs=>obtain⟨_,_,_,e,_⟩:=x;exact⟨_,e⟩
 |own y=>exact x
 |xd fs=>obtain⟨_,⟨_,_,_,e,_⟩,_⟩:=x;exact⟨_,e⟩
 |rng lo hi=>obtain⟨_,_,_,e⟩:=x;exact⟨_,e⟩
 |frz ob u=>exact⟨_,x.1⟩
 |tbl ps=>exact⟨_,x⟩
 |met f y=>exact⟨_,x⟩
 |ext φ=>exact x.2.1
theorem HOk.un0 {P:Program}{w:World}{H:Hp}{h:Heap}{a:Addr}(x:HOk P w H h)(e:h.get? a=none):H a=none:=by
 cases q:H a with
 |none=>rfl
 |some u=>obtain⟨v,hv⟩:=(x a u q).ex;rw[e] at hv;cases hv
structure Fl (h0 h:Heap)(H:Hp)(a T:Addr)(cls:Value):Prop where
 na:h0.get? a=none
 nT:h0.get? T=none
 fa:H a=none
 fT:H T=none
 ne:T≠a
 obj:∃oe vs oT ts a0,h.get? a=some oe/\oe.cls=cls/\vs[0]?=some a0/\oe.data= .fields vs/\vs[1]?=some (.ref T)/\h.get? T=some oT/\oT.data= .fields ts/\ts[3]?=some Value.none
noncomputable def L9 (h:Heap)(fs:List Addr)(a T:Addr):Heap:=CU h (λb=>if b∈fs∨b=a∨b=T then some (.own 0) else none)
theorem Gz {h:Heap}{fs:List Addr}{a T b:Addr}{o:Obj}(e:h.get? b=some o)(n1:b∉fs)(n2:b≠a)(n3:b≠T):(L9 h fs a T).get? b=some o:=
 Gn e (if_neg λz=>z.elim n1 λz=>z.elim n2 n3)
section
variable {P:Program}{w:World}{h0 h h' base:Heap}{H:Hp}{a T:Addr}{cls a0:Value}{l:List Env}
theorem Un.traced (hl:h.FunFrames base l)(keep:∀b o,b∉frs l->b≠a->b≠T->h.get? b=some o->h'.get? b=some o)(up:h.UpToSlots h'):Un (frs l) [a,T] H H h h' where
 keep:=λb o e _ hb hx=>keep b o hb (λz=>hx (by simp[z])) (λz=>hx (by simp[z])) e
 slot:=λb o e _ hb _=>by
  obtain⟨_,o2,ho2,hd2⟩:=hl.mem hb
  rw[e] at ho2;cases ho2
  exact up b o e hd2
 free:=λb o e n _=>n
 there:=λb o e hx=>by
  by_cases hb:b∈frs l
  ·obtain⟨_,o2,ho2,hd2⟩:=hl.mem hb
   obtain⟨sl,q⟩:=up b o2 ho2 hd2
   exact⟨_,q⟩
  ·exact⟨o,keep b o hb (λz=>hx (by simp[z])) (λz=>hx (by simp[z])) e⟩
 tups:=λ_ _ q=>q
 frzs:=λ_ _ _ q=>q
 tbls:=λ_ ps q=>⟨#[],by simpa using q⟩
theorem HOk.traced (hok:HOk P w H h)(hfn:∀b∈frs l,H b=none)(fa:H a=none)(fT:H T=none)(keep:∀b o,b∉frs l->b≠a->b≠T->h.get? b=some o->h'.get? b=some o):HOk P w H h':=λb o e=>by
 refine(hok b o e).stay (λc u hc q=>?_) (λ_ q=>q) λ_ _ q=>q
 have hn:H c≠none:=by
  rcases hc with z |z
  ·rw[z,e];exact λy=>nomatch y
  ·rw[z];exact λy=>nomatch y
 exact keep c u (λz=>hn (hfn c z)) (λz=>hn (z▸fa)) (λz=>hn (z▸fT)) q
theorem Fl.after (x:Fl h0 h H a T cls)(hl:h.FunFrames base l)(hfn:∀b∈frs l,H b=none)(hok:HOk P w H h)(th:∀b o,h0.get? b=some o->∃o',h.get? b=some o')
  (st:(L9 h (frs l) a T).StaysIn h')(tr:h'.TracedW (L9 h (frs l) a T) a cls a0)(up:h.UpToSlots h'):∃T',Fl h0 h' H a T' cls/\HOk P w H h'/\Un (frs l) [a,T] H H h h':=by
 obtain⟨oe,vs,T',oT,ts,ha,⟨hc,h0'⟩,hd,h1,hnT,hne,hT,hdT,h3⟩:=tr
 have key:T'=T∨h.get? T'=none:=by
  cases q:h.get? T' with
  |none=>exact .inr rfl
  |some o=>
   by_cases hf:T'∈frs l
   ·obtain⟨_,o2,ho2,hd2⟩:=hl.mem hf
    obtain⟨sl,e2⟩:=up T' o2 ho2 hd2
    rw[hT] at e2;cases e2
    exact absurd hdT (hd2 ts)
   ·by_cases hz:T'=T
    ·exact .inl hz
    ·rw[Gz q hf hne hz] at hnT;cases hnT
 have keep:∀b o,b∉frs l->b≠a->b≠T->h.get? b=some o->h'.get? b=some o:=λb o n1 n2 n3 e=>st b o (Gz e n1 n2 n3)
 refine⟨T',⟨x.na,?_,x.fa,?_,hne,oe,vs,oT,ts,a0,ha,hc,h0',hd,h1,hT,hdT,h3⟩,hok.traced hfn x.fa x.fT keep,Un.traced hl keep up⟩
 ·rcases key with e |e
  ·rw[e];exact x.nT
  ·cases q:h0.get? T' with
   |none=>rfl
   |some o=>obtain⟨o',e'⟩:=th _ _ q;rw[e] at e';cases e'
 ·rcases key with e |e
  ·rw[e];exact x.fT
  ·exact hok.un0 e
end
section
variable {fs fs2 ex ex2:List Addr}{H0 H H':Hp}{h0 h h':Heap}
end
section
variable {P:Program}{w:World}{K:PySem.W.Frag}{mg:Str->Option Value}{base:Heap}{N:List Str}{qual:Str}{scope:Scope}{f:Addr}{cd:Value}{A:Around}{outer:List Env}{s0:Shared}{H0:Hp}{E:XK}
end
section
variable {X:Cx}{k j:Nat}{x:Str}{ps:List Str}{sp:Sp}{e:Expr}{es:List Expr}{t:TA}{p pos:Pos}{E:XK}
end
section
variable {X:Cx}{E:XK}{C:Addr}{x:Str}{e:Expr}{es:List Expr}{t:TA}{np cpos pos:Pos}
end
noncomputable abbrev TJ:=St->Hp->(Hp->Prop)->Prop
section
variable {X:Cx}{e:Expr}{es:List Expr}{te:TE}{t:TJ}{n:Nat}{pos p:Pos}
end
noncomputable abbrev Cx.held (X:Cx)(a:Addr)(pn:List (Addr×Obj)):Cx:={X with A:=X.A.mark (some (.ref a)),calm:=false,pn:=pn,xe:=λ_ _=>False}
theorem Cx.Ok.held {X:Cx}(ok:X.Ok)(a:Addr)(pn:List (Addr×Obj)):(X.held a pn).Ok:=
 ⟨ok.mod,ok.kind,ok.glob,ok.blt,ok.above,ok.inj,ok.has,ok.cab,(λz=>nomatch z),ok.frames,ok.stk,ok.exf,ok.bs,ok.bsz,ok.noex,ok.exfs,ok.funs,ok.frf⟩
section
variable {X:Cx}{pins:List (Addr×Obj)}{σ:St}{H:Hp}{s:Shared}{h':Heap}
end
section
variable {X:Cx}{body suite:List Stmt}{b₀:Stmt}{cn n:Str}{Ch:Addr}{i:Nat}{tb:XK->TS}{ts:Addr->Addr->TS}{np hpos pos:Pos}
end
section
variable {K:PySem.W.Frag}{Er:Exc->Hp->Prop}{S:SC}{OO OO' OO2:List (List Xy)}{σ:St}{α β γ ρ ι:Type}{α1 α2 α3 α4 α5 α6:Type}{mg:Str->Option Value}{E:XK}
noncomputable def FJ (Q:Hp->Prop)(_:Unit)(H:Hp):Prop:=∀ H',Xr H H'->Q H'
theorem FJ.tr {Q:Hp->Prop}:∀(b:Unit) (H H':Hp),Xr H H'->FJ Q b H->FJ Q b H':=λ_ _ _ s h H2 s2=>h H2 (s.trans s2)
variable {Fd:Ends->β->Hp->Prop}[fd:FdOk Fd]{u:TS}
section
variable {te:XK->TE}{m:Rs α}{ts:Addr->Addr->TS}{N i:Nat}{Ch:Addr}{o:OE ρ}{g:Exc->Rs ρ}{ns:List Str}{d:Str}
end
end
end L2
namespace L2
open PySem PySem.Spec PyProof.Rows PySem.W PySem.Builtin PySem.Builtin.ObjectAttr PySem.Builtin.Getset_descriptor
section
variable {prog:Program}{w:World}{A:Around}{E:Value->Shared->Prop}{K:Frag}{x D:Addr}{s:Shared}
end
theorem Iy {X:Cx}{x:Str}{v:V}{pos:Pos}(h:∃u,X.mg x=some u/\Yc v u)(hg:Gl X x)(hd:(x==("__debug__":Str))=false:=by decide):PE X (.Name x pos) (tC v):=by
 obtain⟨u,hm,r⟩:=h
 exact EC hg hm r hd
theorem PS.nox {X:Cx}{st:Stmt}{t:TS}(h:PS X.nox st t):PS X st t:=λpins s σ H D I hw=>
 wpAny_mono (h pins s σ H D (I.wish _) hw) (λ_ _ q=>q.unwish) λ_ _ z=>False.elim z
section
variable {K:PySem.W.Frag}{C D:Addr}{b:Bool}
end
end L2
namespace L2
open PySem PySem.Spec PyProof.Rows
section
variable {α β:Type}{K:PySem.W.Frag}{Er:Exc->Hp->Prop}{S:SC}{OO:List (List Xy)}{σ:St}{Fd:Ends->β->Hp->Prop}[fd:FdOk Fd]{u:TS}
end
section
variable {α β γ δ ε:Type}
structure Crs (r:Enc α)(q:Enc β)(d:Nat):Prop where
 no:∀{X:Cx}{pins:List (Addr×Obj)}{σ:St}{H:Hp}{s:Shared}{x:V}{a:α}{b:β},Inv X pins σ H s->r X.K H x a->q X.K H x b->False
 lr:∀{X:Cx}{pins:List (Addr×Obj)}{σ:St}{H:Hp}{s:Shared}{x y:V}{v u:Value}{a:α}{b:β}{A:Around},Inv X pins σ H s->Yc x v->Yc y u->r X.K H x a->q X.K H y b->A.units+d<cLine->SeqAt.EqAt A s v u false/\SeqAt.RcAt A s v u false/\SeqAt.RcNeAt A s v u true
 rl:∀{X:Cx}{pins:List (Addr×Obj)}{σ:St}{H:Hp}{s:Shared}{x y:V}{v u:Value}{a:α}{b:β}{A:Around},Inv X pins σ H s->Yc x v->Yc y u->q X.K H x b->r X.K H y a->A.units+d<cLine->SeqAt.EqAt A s v u false/\SeqAt.RcAt A s v u false/\SeqAt.RcNeAt A s v u true
theorem Crs.up {r:Enc α}{q:Enc β}{d e:Nat}(c:Crs r q d)(h:d<=e):Crs r q e:=⟨c.no,λI rx ry h1 h2 hu=>c.lr I rx ry h1 h2 (by omega),λI rx ry h1 h2 hu=>c.rl I rx ry h1 h2 (by omega)⟩
end
section
variable {K:PySem.W.Frag}{Er:Exc->Hp->Prop}{S:SC}{OO OO' OO1 OO2:List (List Xy)}{σ:St}{α β γ ρ ι δ ε ζ:Type}
variable {Fd:Ends->β->Hp->Prop}[fd:FdOk Fd]{u:TS}
noncomputable def getL:α ⊕ γ->Rs α
 | .inl a=>.ok a
 | .inr _=>.bad
noncomputable def getR:α ⊕ γ->Rs γ
 | .inl _=>.bad
 | .inr b=>.ok b
end
end L2
namespace L2
theorem IV {α:Type}{us:List α}(h:us.length=1):∃a,us=[a]:=List.length_eq_one_iff.mp h
theorem IF {α:Type}{us:List α}(h:us.length=2):∃a0 a1,us=[a0,a1]:=by
 cases us with
 |nil=>cases h
 |cons a0 t=>
  obtain⟨a1,rfl⟩:=IV (Nat.succ.inj h)
  exact⟨a0,a1,rfl⟩
theorem Io {α:Type}{us:List α}(h:us.length=3):∃a0 a1 a2,us=[a0,a1,a2]:=by
 cases us with
 |nil=>cases h
 |cons a0 t=>
  obtain⟨a1,a2,rfl⟩:=IF (Nat.succ.inj h)
  exact⟨a0,a1,a2,rfl⟩
theorem Is {α:Type}{us:List α}(h:us.length=4):∃a0 a1 a2 a3,us=[a0,a1,a2,a3]:=by
 cases us with
 |nil=>cases h
 |cons a0 t=>
  obtain⟨a1,a2,a3,rfl⟩:=Io (Nat.succ.inj h)
  exact⟨a0,a1,a2,a3,rfl⟩
theorem LW {α:Type}{us:List α}(h:us.length=5):∃a0 a1 a2 a3 a4,us=[a0,a1,a2,a3,a4]:=by
 cases us with
 |nil=>cases h
 |cons a0 t=>
  obtain⟨a1,a2,a3,a4,rfl⟩:=Is (Nat.succ.inj h)
  exact⟨a0,a1,a2,a3,a4,rfl⟩
end L2
namespace L2
open PySem PySem.Spec PyProof.Rows
section
variable {prog:Program}{w:World}{A:Around}{E:Value->Shared->Prop}
end
section
variable {X:Cx}{pos:Pos}
end
section
variable {K:PySem.W.Frag}{Er:Exc->Hp->Prop}{S:SC}{OO OO' OO1 OO2:List (List Xy)}{σ:St}{α β γ ρ ι δ ε ζ:Type}
variable {Fd:Ends->β->Hp->Prop}[fd:FdOk Fd]{u:TS}
end
section
variable {X:Cx}
noncomputable def ipM:TIp:=λx y H Q=>∃ i j,x= .int i/\y= .int j/\IX i j/\Q (.int (i*j)) H
theorem IL:PIp X .Mult ipM:=by
 intro pins s σ H x y v u Q I r1 r2 h
 obtain⟨i,j,e1,e2,hc,q⟩:=h
 subst e1;subst e2
 obtain⟨t,rfl⟩:=r1
 obtain⟨t',rfl⟩:=r2
 exact PySem.AutoIntOps.imul_0 ⟨.int _,H,I.tok _,⟨_,rfl⟩,q⟩ hc.ok
end
section
variable {K:PySem.W.Frag}{Er:Exc->Hp->Prop}{S:SC}{OO OO' OO1 OO2:List (List Xy)}{σ:St}{α β γ ρ ι δ ε ζ:Type}
variable {Fd:Ends->β->Hp->Prop}[fd:FdOk Fd]{u:TS}
theorem Hj {te:TE}{m:Rs Int}{f:Int->Rs β}{v:V}{a:Int}(i:Nat)(hσ:σ[i]?=some (some v))(h:∀x,S.p x->Xa K x v a)(he:EvB K Er S OO σ te Xa m)
  (hr:∀b v,Sv Er (S.add K Xa v b) OO (σ.set i (some v)) u Fd (f b)):Sv Er S OO σ (JC (Lz i te ipM) u) Fd (m.bind λb=>(QE a b).bind f):=λH D w s P=>
 ⟨v,hσ,he.st w s P λb y H1 s1 w1 q1 r1 P1=>by
  cases e:QE a b with
  |bad=>rw[e] at P1;exact P1.elim
  |err x=>exact absurd e Qa
  |ok c=>
   rw[e] at P1
   obtain⟨h1,h2⟩:=Zm e
   cases h2
   exact⟨a,b,h _ s,r1,h1,hr _ _ H1 D w1 ⟨q1,rfl⟩ P1⟩⟩
end
set_option maxRecDepth 100000
section
variable {prog:Program}{w:World}{A:Around}{E:Value->Shared->Prop}{s:Shared}
theorem Ky:typeLookup (.type "list") "keys" =pure none:=by rw[typeLookup_type,builtinLookup_eq_fast];kernel_rfl
theorem Bx {a:Addr}{o:Obj}{xs:Array Value}{k:Nat}{R:Option Value->Shared->Prop}(hx:s.heap.get? a=some o)(hc:o.cls= .type "list")(hdat:o.data= .seq xs k)(hd:o.dict=none)(hA:A.handled=none)
    (h:∀g tk,(∀b u,s.heap.get? b=some u->g.get? b=some u)->R none {s with heap:=g,toks:=tk}):wpAny (model prog w) A (getAttr? (.ref a) "keys") R E s:=by
  obtain⟨c,dct,dat,sl⟩:=o
  simp only at hc hdat hd
  subst hc hdat hd
  obtain⟨hp,g,d,tk,os⟩:=s
  have hT:∀tk',(⟨hp,g,d,tk',os⟩:Shared).TypeIs (.ref a) "list":=λ_=>⟨_,hx,rfl⟩
  have f1:=sub_AttributeError
  have f3:=F.slot_list_getattribute.lookup
  have f4:=F.slot_list_getattribute.bind (.ref a)
  have f5:=am_list_getattr_none
  unfold getAttr? getAttrBy? getAttrBy
  repeat (any_goals (first
    |assumption
    |exact hT _
    | ((with_reducible show wpAny _ _ (call (Value.builtin "list.__getattribute__") _ _) _ _ _)
       refine call_meets F.slot_list_getattribute (hT _) am_entry_list_getattribute (F.args_list_getattribute_2 _ _) (meets_getattribute_miss_list a xs k sl "keys" _ Ky (by decide+kernel)) ⟨hx,hA,λh' tk' e hx'=>?_⟩)
    |wp_step))
  obtain⟨t',u',he⟩:=hx'.there
  show wpAny _ _ (getattributeRaised _ _ _ _ _ _ _) _ _ _
  unfold getattributeRaised
  repeat (any_goals (first |wp_step |assumption))
  exact h _ _ hx'.keeps
theorem Z3:plainId "dict.update.loop" =true:=by decide+kernel
theorem VB:entryFor table "dict.update.loop" =some Builtin.«dict.update.loop»:=entryFor_of_fast (by kernel_rfl)
end
section
variable {prog:Program}{w:World}{A:Around}{R:Result->Shared->Prop}{K:Type}[DecidableEq K]{knd:KeyKind prog w K}
noncomputable def Hc (knd:KeyKind prog w K)(h:Heap)(its:Array Value)(kv:List (K×Value)):Prop:=its.size=kv.length/\∀(j:Nat) (x:Value) (p:K×Value),its[j]?=some x->kv[j]?=some p->∃t key,x= .ref t/\h.IsTuple t #[key,p.2]/\knd.is p.1 key=true
noncomputable def UG (acc kv:List (K×Value)):List (K×Value):=kv.foldl (λa p=>stored a p.1 p.2) acc
theorem GY (acc:List (K×Value))(k:K)(v:Value):(stored acc k v).length<=acc.length+1:=by
 unfold stored
 split
 ·simp
 ·simp
theorem Kh {h:Heap}{t I l:Addr}{i:Nat}{xs:Array Value}(ht:h.IsTuple t xs)(it:h.IsListIter I l i):t≠I:=λe=>by
 subst e
 obtain⟨o,ho,hc,_⟩:=ht
 obtain⟨o',ho',hc',_⟩:=it
 rw[ho] at ho'
 cases ho'
 rw[hc] at hc'
 exact absurd hc' (by decide)
theorem DP {h:Heap}{t d:Addr}{xs:Array Value}{acc:List (K×Value)}(ht:h.IsTuple t xs)(hd:h.DictOf knd d acc):t≠d:=λe=>by
 subst e
 obtain⟨o,ho,hc,_⟩:=ht
 obtain⟨o',_,_,ho',hc',_⟩:=hd
 rw[ho] at ho'
 cases ho'
 have:=hc'.1
 rw[hc] at this
 exact absurd this (by decide)
theorem LH (hh:A.in1.handled=none){d I l:Addr}(hdI:d≠I)(hlI:l≠I)(hld:l≠d){its:Array Value}{kv:List (K×Value)}:
  ∀(k i:Nat) (s:Shared) (acc:List (K×Value)),its.size-i=k->i<=its.size->s.heap.IsListIter I l i->s.heap.IsList l its->Hc knd s.heap its kv->s.heap.DictOf knd d acc->acc.length+its.size<=sizeLine+i->
  (∀g tk,g.DictOf knd d (UG acc (kv.drop i))->(∀b o,b≠I->b≠d->s.heap.get? b=some o->g.get? b=some o)->R (.ok (.ret .none)) {s with heap:=g,toks:=tk})->
  codeAny (model prog w) A (.builtin "dict.update.loop" ⟨[.ref d, .ref I,rawInt i, .none],[]⟩) R s:=by
 intro k
 induction k with
 |zero=>
  intro i s acc hk hi it hl hp hd hz r
  refine codeAny_builtin VB ?_
  rw[Around.under_plainId Z3 _]
  show wpAny _ A.in1 (pyNext (.ref I) >>= _) _ _ s
  refine wpAny_bind (wpAny_pyNext_list_end hh it hl (by simp;omega) λg hx=>?_)
  show wpAny _ _ (Builtin.Dict.addKeywords d [] >>= λ_=>ret Value.none) _ _ _
  refine wpAny_bind (wpAny_pure (wpAny_pure (r g s.toks ?_ λb o hb _ e=>hx b o hb e)))
  have e:kv.drop i=[]:=List.drop_eq_nil_of_le (by have:=hp.1;omega)
  rw[e]
  exact hd.extBut hx hdI
 |succ k ih=>
  intro i s acc hk hi it hl hp hd hz r
  have lt:i<its.size:=by omega
  refine codeAny_builtin VB ?_
  rw[Around.under_plainId Z3 _]
  show wpAny _ A.in1 (pyNext (.ref I) >>= _) _ _ s
  refine wpAny_bind (wpAny_pyNext_list_item it hl (x:=its[i]) (by simp[lt]) λg it' hx=>?_)
  have lt2:i<kv.length:=by have:=hp.1;omega
  obtain⟨t,key,et,ht,hkey⟩:=hp.2 i its[i] kv[i] (by simp[lt]) (by simp[lt2])
  have htI:t≠I:=Kh ht it
  have ht1:g.IsTuple t #[key,kv[i].2]:=ht.extBut hx.extBut htI
  obtain⟨o,ho,hc,n,hdt⟩:=id ht1
  rw[et]
  show wpAny _ _ (holding [Value.ref t] _ >>= λ_=>again (.builtin "dict.update.loop" ⟨[.ref d, .ref I,rawInt ((i:Int)+1), .none],[]⟩)) _ _ _
  refine wpAny_bind (wpAny_holding ?_)
  refine wpAny_bind (wpAny_tryCatch ?_)
  unfold Builtin.Dict.pairItems
  refine wpAny_bind (wpAny_typeOf (s:={s with heap:=g}) ⟨o,ho,hc⟩ ?_)
  rw[if_pos (by decide)]
  refine wpAny_bind (wpAny_seqItems (s:={s with heap:=g}) ho hdt (wpAny_pure ?_))
  show wpAny _ _ (holding [key,kv[i].2] (dictSet d key kv[i].2)) _ _ _
  refine wpAny_holding (wpAny_dictSet_pairs (s:={s with heap:=g}) hkey (hd.extBut hx.extBut hdI) (λg2 hd2 hx2=>?_) (by omega))
  refine wpAny_pure ⟨plainId_quiet Z3 _,?_⟩
  have hne:∀{b:Addr}{u:Obj},s.heap.get? b=some u->b≠I->b≠d->g2.get? b=some u:=fun {b u} e h1 h2=>(hx2.2 b h2).trans (hx.extBut b u h1 e)
  refine ih (i+1) {s with heap:=g2,toks:=s.toks+1} (stored acc kv[i].1 kv[i].2) (by omega) (by omega) ?_ ?_ ?_ hd2 ?_ ?_
  ·exact it'.extBut hx2.extBut (λe=>hdI e.symm)
  ·exact(hl.extBut hx.extBut hlI).extBut hx2.extBut hld
  ·refine⟨hp.1,λj x p h1 h2=>?_⟩
   obtain⟨t2,key2,e2,ht2,hk2⟩:=hp.2 j x p h1 h2
   exact⟨t2,key2,e2,(ht2.extBut hx.extBut (Kh ht2 it)).extBut hx2.extBut (DP ht2 hd),hk2⟩
  ·have:=GY acc kv[i].1 kv[i].2
   omega
  ·intro g3 tk hd3 kp
   refine r g3 tk ?_ λb o h1 h2 e=>kp b o h1 h2 (hne e h1 h2)
   rw[List.drop_eq_getElem_cons lt2]
   exact hd3
theorem Fa (hh:A.handled=none){E:Value->Shared->Prop}{s:Shared}{l:Addr}{o:Obj}{n:Nat}{its:Array Value}{kv:List (K×Value)}{Q:Value->Shared->Prop}(hx:s.heap.get? l=some o)(hc:o.cls= .type "list")(hdat:o.data= .seq its n)(hd:o.dict=none)(hp:Hc knd s.heap its kv)(hz:its.size<=sizeLine)
  (r:∀g tk,g.DictOf knd s.heap.objs.size (UG [] kv)->(∀b u,s.heap.get? b=some u->g.get? b=some u)->Q (.ref s.heap.objs.size) {s with heap:=g,toks:=tk}):wpAny (model prog w) A (call (.type "dict") [.ref l]) Q E s:=by
 refine callType_codes (Q₁:=λobj s₁=>obj= .ref s.heap.objs.size/\s₁={s with heap:=s.heap.push {cls:=.type "dict",data:=.dict #[]}}) F.kt_called_dict (F.kt_typeCall_dict_1 _) F.entry_dict_init (kt_code_dict_new _ ⟨rfl,rfl⟩) ?_
 rintro obj s₁ ⟨rfl,rfl⟩
 have hnew:(s.heap.push {cls:=.type "dict",data:=.dict #[]}).DictOf knd s.heap.objs.size []:=Heap.DictOf.new s.heap
 have hx1:(s.heap.push {cls:=.type "dict",data:=.dict #[]}).get? l=some o:=Heap.get?_push_of_some _ hx
 refine⟨hnew.typeIs,F.args_dict_init_2 _ _,?_⟩
 unfold Builtin.«dict.__init__»
 refine wpAny_bind ?_
 unfold Builtin.Dict.selfAndRest
 refine wpAny_bind (wpAny_notOrdered_dict hnew.typeIs ?_)
 show wpAny _ _ (pure (s.heap.objs.size,[Value.ref l])) _ _ _
 refine wpAny_pure ?_
 show wpAny _ _ (Builtin.Dict.updateFrom "dict.__init__" s.heap.objs.size (.ref l) [] .none) _ _ _
 unfold Builtin.Dict.updateFrom
 refine wpAny_bind (wpAny_typeOf ⟨o,hx1,hc⟩ ?_)
 rw[if_pos (by decide)]
 refine wpAny_bind (Bx hx1 hc hdat hd hh λg tk kp=>?_)
 rw[if_pos (show(none:Option Value).isNone=true from rfl)]
 refine wpAny_bind (wpAny_rule ?_)
 have hlg:g.IsList l its:=⟨o,kp _ _ hx1,hc,n,hdat⟩
 have hdg:g.DictOf knd s.heap.objs.size []:=by
  obtain⟨o',es,ep,ho,q⟩:=hnew
  exact⟨o',es,ep,kp _ _ ho,q⟩
 have hdlt:s.heap.objs.size<g.objs.size:=by
  obtain⟨o',es,ep,ho,q⟩:=hdg
  exact Heap.lt_size ho
 have hllt:l<s.heap.objs.size:=Heap.lt_size hx
 refine wpAny_bind (wpAny_pyIter_list (s:={s with heap:=g,toks:=tk}) hlg ?_)
 refine wpAny_pure ⟨plainId_quiet Z3 _,?_⟩
 refine LH (A:=A.in1) (show A.in1.in1.handled=none from hh) (d:=s.heap.objs.size) (I:=g.objs.size) (l:=l) (its:=its) (kv:=kv) (Nat.ne_of_lt hdlt) (Nat.ne_of_lt (Nat.lt_trans hllt hdlt)) (Nat.ne_of_lt hllt) its.size 0 _ [] rfl (Nat.zero_le _) ⟨_,Heap.get?_push_size _ rfl,rfl,rfl⟩ (hlg.push _) ?_ (hdg.push _) (by simpa using hz) ?_
 ·refine⟨hp.1,λj x p h1 h2=>?_⟩
  obtain⟨t2,key2,e2,⟨ot,hot,q⟩,hk2⟩:=hp.2 j x p h1 h2
  exact⟨t2,key2,e2,⟨ot,Heap.get?_push_of_some _ (kp _ _ (Heap.get?_push_of_some _ hot)),q⟩,hk2⟩
 ·intro g2 tk2 hd2 kp2
  refine⟨rfl,r g2 tk2 hd2 λb u e=>?_⟩
  have hb:=Heap.lt_size e
  exact kp2 b u (Nat.ne_of_lt (Nat.lt_trans hb hdlt)) (Nat.ne_of_lt hb) (Heap.get?_push_of_some _ (kp _ _ (Heap.get?_push_of_some _ e)))
end
section
variable {X:Cx}
noncomputable def Q0 (acc kvs:List (Key×V)):List (Key×V):=kvs.foldl (λa p=>KC a p.1 p.2) acc
theorem Br (kvs:List (Key×V))(k:Key)(v:V):(KC kvs k v).length<=kvs.length+1:=by
 unfold KC
 split<;> simp
theorem VR:∀(kvs acc:List (Key×V)),(Q0 acc kvs).length<=acc.length+kvs.length
 | [],acc=>by simp[Q0]
 |p::kvs,acc=>by
  have h1:=VR kvs (KC acc p.1 p.2)
  have h2:=Br acc p.1 p.2
  show(Q0 (KC acc p.1 p.2) kvs).length<=_
  rw[List.length_cons]
  omega
theorem KV.all {kvs:List (Key×V)}{vs:List (Key×Value)}(t:KV kvs vs):∀{acc:List (Key×V)}{acc':List (Key×Value)},KV acc acc'->KV (Q0 acc kvs) (UG acc' vs):=by
 induction t with
 |nil=>intro acc acc' h;exact h
 | @cons p q kvs vs r _ ih=>
  intro acc acc' h
  have h2:=h.put p.1 r.2
  have e:stored acc' p.1 q.2=stored acc' q.1 q.2:=by rw[r.1]
  rw[e] at h2
  exact ih h2
noncomputable def Ee (K:PySem.W.Frag):List V->Hp->VK->Prop:=λxs H Q=>∃ l ps kvs,xs=[.ref l]/\SqL K H l ps/\Paired (λp (kv:Key×V)=>∃ t,p= .ref t/\SqT K H t [kV kv.1,kv.2]) ps kvs/\∀d,H d=none->Q (.ref d) (upd H d (.dK (Q0 [] kvs)))
theorem IR {pins:List (Addr×Obj)}{σ:St}{H:Hp}{s:Shared}(I:Inv X pins σ H s):∀{ps:List V}{kvs:List (Key×V)}{its:List Value},Paired (λp (kv:Key×V)=>∃ t,p= .ref t/\SqT X.K H t [kV kv.1,kv.2]) ps kvs->Yl ps its->∃kv,KV kvs kv/\Hc (X8 X.prog X.w) s.heap its.toArray kv:=fun {ps kvs its} p=>by
 induction p generalizing its with
 |nil=>
  intro v
  cases v
  exact⟨[], .nil,rfl,λj x p h=>by simp at h⟩
 | @cons _ b _ _ r _ ih=>
  intro v
  cases v with
  |cons rv v=>
   obtain⟨kv,h1,h2,h3⟩:=ih v
   obtain⟨t,rfl,ht⟩:=r
   cases rv
   obtain⟨i2,v2,tp,_⟩:=I.tuple ht
   obtain⟨key,val,rfl,e1,e2⟩:=Yl.two v2
   refine⟨(b.1,val)::kv, .cons ⟨rfl,e2⟩ h1,by simpa using h2,λj x p hj hp=>?_⟩
   cases j with
   |zero=>
    simp at hj hp
    subst hj hp
    exact⟨t,key,rfl,tp,Hm e1⟩
   |succ j=>exact h3 j x p (by simpa using hj) (by simpa using hp)
theorem U7 (K:PySem.W.Frag)(hK:X.K=K)(hc:X.calm=true):JI X (.type "dict") (Ee K):=by
 subst hK
 intro pins s σ H xs us Q I r h
 obtain⟨l,ps,kvs,rfl,hq,hp,q⟩:=h
 obtain⟨u,rfl,ru⟩:=HD r
 cases ru
 obtain⟨its,rv,⟨o,n,ho,hcl,hdn,hdat⟩,hz⟩:=I.list hq
 obtain⟨kv,h1,h2⟩:=IR I hp rv
 have hlen:=rv.length
 have hl2:=Paired.len hp
 refine Fa (knd:=X8 X.prog X.w) (I.ok.hd hc) ho hcl hdat hdn h2 (by simpa[←hlen] using hz) λg tk hd kp=>?_
 refine⟨.ref s.heap.objs.size,_,I.laid (t':=tk) kp (Nat.le_refl _) (show YH X.prog X.w _ g _ (.dK (Q0 [] kvs)) from⟨Nat.le_trans (VR kvs []) (by simp;omega),beq_eq_false_iff_ne.mpr (Ne.symm (Nat.ne_of_lt I.big)),_,KV.all h1 .nil,hd⟩),rfl,q _ (I.hok.fresh (Nat.le_refl _))⟩
end
section
variable {X:Cx}{pins:List (Addr×Obj)}{σ:St}{H:Hp}{s:Shared}{d:Addr}{o:Obj}{kvs:List (Key×V)}
theorem Cd {k:Key}{u:Value}(h:UA k u=true):Yc (kV k) u:=by
 cases k with
 |inl n=>
  cases u<;> simp[UA,Value.isInt] at h
  subst h
  exact⟨_,rfl⟩
 |inr x=>
  cases u<;> simp[UA,Value.isStrOf] at h
  subst h
  exact⟨_,rfl⟩
theorem Inv.freeze (I:Inv X pins σ H s)(e:H d=some (.dK kvs))(ho:s.heap.get? d=some o):Inv X pins σ (upd H d (.frz o (.dK kvs))) s:=by
 have x:=(show YH X.prog X.w H s.heap d (.dK kvs) from I.hok d _ e)
 exact I.write (t':=s.toks) (x:=d) (e:=d) (h':=s.heap) (by rw[e];exact True.intro) (.inl rfl) (λb u _ q=>q) ⟨o,ho⟩ ⟨ho,x⟩
theorem Inv.thaw (I:Inv X pins σ H s)(e:H d=some (.frz o (.dK kvs)))(n:∀o u,X.H₀ d≠some (.frz o u)):Inv X pins σ (upd H d (.dK kvs)) s:=by
 have ne:∀{b:Addr},H b=none->b≠d:=fun {b} h z=>by rw[z,e] at h;cases h
 refine⟨I.ok,I.os,I.bare,⟨I.base.keep,I.base.slot,λb ob q nn hx=>?_,I.base.there,λb xs q=>?_,λb ob u q=>?_,λb ps q=>?_⟩,I.loc,I.cell,?_,λx c h=>?_,λp hp=>?_,λb u q=>?_,I.len⟩
 ·have h:=I.base.free b ob q nn hx
  rw[Xs (ne h)];exact h
 ·have h:=I.base.tups b xs q
  rw[Xs (C4 h e (λz=>nomatch z))];exact h
 ·have h:=I.base.frzs b ob u q
  by_cases z:b=d
  ·subst z;exact absurd q (n ob u)
  ·rw[Xs z];exact h
 ·obtain⟨more,h⟩:=I.base.tbls b ps q
  exact⟨more,by rw[Xs (C4 h e (λz=>nomatch z))];exact h⟩
 ·rw[Xs (ne I.free)];exact I.free
 ·rw[Xs (ne (I.freeC x c h))];exact I.freeC x c h
 ·obtain⟨h1,h2,h3⟩:=I.pin p hp
  exact⟨h1,by rw[Xs (ne h2)];exact h2,h3⟩
 ·by_cases z:b=d
  ·subst z
   rw[Yr] at q
   cases q
   obtain⟨_,h⟩:=(show YH X.prog X.w H s.heap b (.frz o (.dK kvs)) from I.hok b _ e)
   exact h
  ·rw[Xs z] at q
   exact(I.hok b u q).stay (λ_ _ _ r=>r) (λc r=>by rw[Xs (C4 r e (λz=>nomatch z))];exact r) λc xs r=>by rw[Xs (C4 r e (λz=>nomatch z))];exact r
noncomputable def tFz (i:Nat)(t:TE):TE:=λσ H Q=>∃ d kvs,σ[i]?=some (some (.ref d))/\H d=some (.dK kvs)/\∀o,t σ (upd H d (.frz o (.dK kvs))) λv H'=>H' d=some (.frz o (.dK kvs))/\Q v (upd H' d (.dK kvs))
theorem LI {x:Expr}{t:TE}(i:Nat)(h:PE X x t):PE X x (tFz i t):=by
 intro pins s σ H Q I ⟨d,kvs,_,e,q⟩
 obtain⟨_,_,vs,_,o,es,ep,ho,_⟩:=(show YH X.prog X.w H s.heap d (.dK kvs) from I.hok d _ e)
 refine thn (h pins s σ _ _ (I.freeze e ho) (q o)) λv s1 ⟨y,H1,I1,r1,e1,q1⟩=>⟨y,_,I1.thaw e1 (λo u z=>?_),r1,q1⟩
 have:=I.base.frzs d o u z
 rw[e] at this
 cases this
theorem Inv.dictAt (I:Inv X pins σ H s)(e:H d=some (.frz o (.dK kvs))){es:Array DictEntry}{ep:Nat}(hd:o.data= .dict es ep):(d==sysModules)=false/\∃vs,KV kvs vs/\Heap.DictAt (X8 X.prog X.w) s.heap d vs ep:=by
 obtain⟨h1,_,hs,vs,rel,o',es',ep',g1,g2,g3,g4⟩:=(show YH X.prog X.w H s.heap d (.frz o (.dK kvs)) from I.hok d _ e)
 rw[h1] at g1
 cases g1
 rw[hd] at g3
 cases g3
 exact⟨hs,vs,rel,o,es,h1,g2,hd,g4⟩
theorem KV.key {kvs:List (Key×V)}{vs:List (Key×Value)}(h:KV kvs vs):∀{i:Nat} (h1:i<kvs.length) (h2:i<vs.length),(kvs[i]).1=(vs[i]).1:=by
 induction h with
 |nil=>intro i h1;exact absurd h1 (Nat.not_lt_zero _)
 |cons r _ ih=>
  intro i h1 h2
  cases i with
  |zero=>exact r.1
  |succ i=>exact ih (Nat.lt_of_succ_lt_succ h1) (Nat.lt_of_succ_lt_succ h2)
end
section
variable {X:Cx}
end
section
variable {K:PySem.W.Frag}{Er:Exc->Hp->Prop}{S:SC}{OO OO' OO2:List (List Xy)}{σ:St}{α β γ ρ ι δ ε:Type}
variable {Fd:Ends->β->Hp->Prop}[fd:FdOk Fd]{u:TS}
noncomputable def rDf {α:Type}(r:Enc α):Enc (List (Int×α)):=λK H v d=>∃ p o kvs,v= .ref p/\H p=some (.frz o (.dK kvs))/\Paired (rDP r K H) kvs d
instance {r:Enc α}[m:MonoE r]:MonoE (rDf r):=⟨λs r9=>by obtain⟨p,o,kvs,e,q,pr⟩:=r9;exact⟨p,o,kvs,e,s _ _ q,Paired.imp2 (λ_ _ z=>⟨z.1,m.mono s z.2⟩) pr⟩⟩
class FlatTE {α:Type}(r:Enc α):Prop where
 flat:∀{K:PySem.W.Frag}{H H':Hp}{v:V}{a:α},(∀b xs,H b=some (.tup xs)->H' b=some (.tup xs))->r K H v a->r K H' v a
class FlatT {α:Type}(o:OE α):Prop where
 flat:∀{K:PySem.W.Frag}{H H':Hp}{v:V}{a:α}{C:List Xy},(∀b xs,H b=some (.tup xs)->H' b=some (.tup xs))->o K H v a C->o K H' v a C
instance:FlatTE Xa:=⟨λ_ h=>h⟩
instance:FlatTE XZ:=⟨λ_ h=>h⟩
instance {r:Enc α}{q:Enc β}{t:Enc γ}[m:FlatTE r][n:FlatTE q][k:FlatTE t]:FlatTE (rP3 r q t):=⟨λs r9=>by obtain⟨a,x,y,z,e,h,p1,p2,p3⟩:=r9;exact⟨a,x,y,z,e,s _ _ h,m.flat s p1,n.flat s p2,k.flat s p3⟩⟩
instance {r:Enc α}{q:Enc β}[m:FlatTE r][n:FlatTE q]:FlatTE (rP2 r q):=⟨λs r9=>by obtain⟨a,x,y,e,h,p1,p2⟩:=r9;exact⟨a,x,y,e,s _ _ h,m.flat s p1,n.flat s p2⟩⟩
instance {r:Enc α}[m:FlatTE r]:FlatT (oF r):=⟨λs h=>⟨h.1,m.flat s h.2⟩⟩
theorem BD {te:TE}{o:OE α}[y:FlatT o]{r:Enc γ}[z:MonoE r]{m:Rs α}{v:V}{a:List (Int×γ)}{C:List Xy}(i k:Nat)(hσ:σ[i]?=some (some v))(hk:OO[k]?=some C)(h:∀x,S.p x->oD r K x v a C)(hm:∀x,m≠ .err x)
  (he:Ev K Er (S.add K (rDf r) v a) (OO.set k []) (OO.set k []) σ te o m):Ev K Er S OO OO σ (tFz i te) o m:=λH Q w s P=>by
 obtain⟨d,kvs,e,pr,c⟩:=h _ s
 subst c e
 have hp:=XF hk
 have wk:W ([(d, .dK kvs)]::OO.set k []) H:=w.of hp
 have hH:H d=some (.dK kvs):=wk.cell (d, .dK kvs) (by simp)
 have hnd:d∉fl (OO.set k []):=by
  have:=wk.nd
  rw[XD] at this
  exact λhb=>(List.nodup_append.mp this).2.2 d (by simp) d hb rfl
 have hin:∀{b:Addr},b∈fl OO↔b=d∨b∈fl (OO.set k []):=fun {b}=>by
  rw[←Qg hp b,XD];simp
 refine⟨d,kvs,hσ,hH,λob=>?_⟩
 have hne:∀{b:Addr}{x:HO},b∈fl (OO.set k [])->upd H d x b=H b:=fun {b x} hb=>Xs λq=>hnd (q▸hb)
 have wf:W (OO.set k []) (upd H d (.frz ob (.dK kvs))):=⟨λc hc=>by rw[hne (Q4 hc)];exact wk.tail.tr c hc,wk.tail.nd,wk.tail.mu⟩
 have hs:Xr (hid H OO) (hid (upd H d (.frz ob (.dK kvs))) (OO.set k [])):=λb x q=>by
  obtain⟨q1,q2⟩:=XI q
  have hb:b≠d:=λe=>q2 (hin.mpr (.inl e))
  exact YM (by rw[Xs hb];exact q1) λe=>q2 (hin.mpr (.inr e))
 have hf:hid (upd H d (.frz ob (.dK kvs))) (OO.set k []) d=some (.frz ob (.dK kvs)):=YM Yr hnd
 refine he _ _ wf ⟨S.mono _ _ hs s,d,ob,kvs,rfl,hf,Paired.imp2 (λ_ _ q=>⟨q.1,z.mono hs q.2⟩) pr⟩ ?_
 cases em:m with
 |bad=>rw[em] at P;exact P
 |err x=>exact absurd em (hm x)
 |ok b=>
  rw[em] at P
  intro v' D H' s' w' m' ho
  obtain⟨hd1,hd2⟩:=XI (m' _ _ hf)
  have hne2:∀{b:Addr}{x:HO},b∈fl (D::OO.set k [])->upd H' d x b=H' b:=fun {b x} hb=>Xs λq=>hd2 (q▸hb)
  have w2:W ([(d, .dK kvs)]::D::OO.set k []) (upd H' d (.dK kvs)):=by
   refine⟨λc hc=>?_,?_,λc hc=>?_⟩
   ·rw[List.flatten_cons,List.mem_append] at hc
    rcases hc with hc |hc
    ·have:c=(d, .dK kvs):=by simpa using hc
     rw[this];exact Yr
    ·rw[hne2 (Q4 hc)];exact w'.tr c hc
   ·rw[XD]
    refine List.nodup_append.mpr ⟨by simp,w'.nd,λa ha b hb e=>?_⟩
    have:a=d:=by simpa using ha
    exact hd2 (this▸e▸hb)
   ·rw[List.flatten_cons,List.mem_append] at hc
    rcases hc with hc |hc
    ·have:c=(d, .dK kvs):=by simpa using hc
     rw[this];rfl
    ·exact w'.mu c hc
  have pe:(D::OO).flatten.Perm ([(d, .dK kvs)]::D::OO.set k []).flatten:=by
   simp only[List.flatten_cons]
   refine List.Perm.trans (List.Perm.append_left D (by simpa using hp.symm:OO.flatten.Perm ([(d, .dK kvs)]++(OO.set k []).flatten))) ?_
   rw[←List.append_assoc, ←List.append_assoc]
   exact List.perm_append_comm.append_right _
  have hin2:∀{b:Addr},b∈fl (D::OO)↔b=d∨b∈fl (D::OO.set k []):=fun {b}=>by
   rw[Qg pe b,XD];simp
  refine⟨hd1,P v' D _ (λb x q=>?_) (w2.of pe) (λb x q=>?_) (y.flat (λb xs q=>?_) ho)⟩
  ·by_cases hb:b=d
   ·subst hb;rw[hH] at q;rw[Yr];exact q
   ·rw[Xs hb];exact s' b x (by rw[Xs hb];exact q)
  ·obtain⟨q1,q2⟩:=XI (m' _ _ (hs b x q))
   have hb:b≠d:=λe=>(XI q).2 (hin.mpr (.inl e))
   exact YM (by rw[Xs hb];exact q1) λe=>(hin2.mp e).elim hb q2
  ·obtain⟨q1,q2⟩:=XI q
   have hb:b≠d:=λe=>by rw[e,hd1] at q1;cases q1
   exact YM (by rw[Xs hb];exact q1) λe=>(hin2.mp e).elim hb q2
noncomputable def G8 (d ps:List (Int×α)):List (Int×α):=ps.foldl (λd p=>Ff d p.1 p.2) d
theorem U2 {r:Enc α}{H:Hp}{kvs:List (Key×V)}{ps:List (Int×α)}(h:Paired (rDP r K H) kvs ps):∀{acc:List (Key×V)}{d:List (Int×α)},Paired (rDP r K H) acc d->Paired (rDP r K H) (Q0 acc kvs) (G8 d ps):=by
 induction h with
 |nil=>intro acc d h;exact h
 | @cons kv kx _ _ r _ ih=>
  intro acc d h
  have:=K4 (k:=kx.1) r.2 h
  rw[←r.1] at this
  exact ih this
theorem DW {r:Enc α}{h H:Hp}(hs:Xr h H){xs:List V}{ps:List (Int×α)}(p:Paired (rP2 Xa r K h) xs ps):∃kvs,Paired (λp (kv:Key×V)=>∃ t,p= .ref t/\SqT K H t [kV kv.1,kv.2]) xs kvs/\Paired (rDP r K h) kvs ps:=by
 induction p with
 |nil=>exact⟨[], .nil, .nil⟩
 | @cons x pr _ _ q _ ih=>
  obtain⟨kvs,h1,h2⟩:=ih
  obtain⟨t,a,b,e,ht,e1,e2⟩:=q
  have e1:a= .int pr.1:=e1
  subst e1
  exact⟨(.inl pr.1,b)::kvs, .cons ⟨t,e,SqT.of (hs _ _ ht)⟩ h1, .cons ⟨rfl,e2⟩ h2⟩
theorem By {ta:TE}{r:Enc α}[z:MonoE r]{ma:Rs (List (Int×α))}(ha:EvL K Er S OO σ ta (rP2 Xa r) ma):Ev K Er S OO OO σ (tCB (Ee K) (XO ta Jf)) (oD r) (ma.bind λps=>.ok (G8 [] ps)):=λH Q w s P=>
 ha.run w s FO.tr P λps x H1 s1 w1 q1 ⟨p,xs,e,q,pr⟩ P1=>by
  obtain⟨kvs,h1,h2⟩:=DW (Xn (H:=H1) (OO:=OO)) pr
  refine⟨p,xs,kvs,by rw[e],SqL.of q,h1,λd hd=>?_⟩
  have hn:=Jl (OO:=OO) hd (o:=.dK (Q0 [] kvs))
  exact P1 (.ref d) [(d, .dK (Q0 [] kvs))] _ (Xz hd _) (w1.new hd rfl) hn ⟨d,_,rfl,Paired.imp2 (λ_ _ h=>⟨h.1,z.mono hn h.2⟩) (U2 h2 .nil),rfl⟩
theorem Eu {te:TE}{r1:Enc α}{r2:Enc γ}{r3:Enc δ}[MonoE r1][MonoE r2][MonoE r3]{m:Rs (α×γ×δ)}{f:α×γ×δ->Rs β}(i j k:Nat)(he:EvS K Er S OO σ te (rP3 r1 r2 r3) m)
  (hr:∀a v w x,Sv Er (((S.add K r1 v a.1).add K r2 w a.2.1).add K r3 x a.2.2) OO (((σ.set i (some v)).set j (some w)).set k (some x)) u Fd (f a)):Sv Er S OO σ (JC (Ei te (Bc K 3 (Zq (YU i) (Zq (YU j) (Zq (YU k) B6))))) u) Fd (m.bind f):=λH D w s P=>
 he.st w s P λa v H1 s1 w1 q1 r1 P1=>(tg3 (K:=K) (OO:=OO) i j k).ok (S:=S) r1 q1 λx hx=>hr a _ _ _ H1 D w1 hx P1
end
section
variable {prog:Program}{w:World}{A:Around}
end
section
variable {X:Cx}
end
section
variable {K:PySem.W.Frag}{Er:Exc->Hp->Prop}{S:SC}{OO OO' OO1 OO2:List (List Xy)}{σ:St}{α β γ ρ ι δ ε:Type}
variable {Fd:Ends->β->Hp->Prop}[fd:FdOk Fd]{u:TS}
theorem Hb {ta tb:TE}{o:OE α}[z:MonoO o]{ma mb:Rs (List α)}(ha:Ev K Er S OO OO1 σ ta (oL o) ma)(hb:∀C,Ev K Er S (C::OO1) (C::OO2) σ tb (oL o) mb):Ev K Er S OO OO2 σ (tOp LZ ta tb) (oL o) (ma.bind λas=>mb.bind λbs=>VG as bs):=λH Q w s P=>by
 refine ha H _ w s ?_
 cases em:ma with
 |bad=>rw[em] at P;exact P
 |err x=>rw[em] at P;exact P
 |ok as=>
  rw[em] at P
  intro v C H1 s1 w1 m1 ho
  refine hb C H1 _ w1 (S.mono _ _ m1 s) ?_
  have P1:PZ Er (FO K OO OO2 (oL o) Q) H (mb.bind λbs=>VG as bs):=P
  cases en:mb with
  |bad=>rw[en] at P1;exact P1
  |err x=>rw[en] at P1;exact λH2 s2=>P1 H2 (s1.trans s2)
  |ok bs=>
   rw[en] at P1
   intro v2 C2 H2 s2 w2 m2 ho2
   have P2:PZ Er (FO K OO OO2 (oL o) Q) H (VG as bs):=P1
   obtain⟨c,hc,P3⟩:=P2.okOf λx=>Qa
   obtain⟨hsz,h2⟩:=Zm hc
   cases h2
   obtain⟨p,xs,Cs,e,q,ec⟩:=ho
   obtain⟨p2,ys,Cs2,e2,q2,ec2⟩:=ho2
   subst ec ec2 e e2
   have hp1:H2 p=some (.lst xs):=w2.tr (p, .lst xs) (by simp)
   have hp2:H2 p2=some (.lst ys):=w2.tr (p2, .lst ys) (by simp)
   refine⟨p,p2,xs,ys,rfl,rfl,hp1,hp2,by rw[q.len.1,q2.len.1];exact hsz,λa ha=>?_⟩
   have w3:W ((Cs++Cs2).flatten::OO2) H2:=by
    have pm:((Cs2.flatten::Cs.flatten::OO2)).flatten.Perm (((Cs++Cs2).flatten::OO2)).flatten:=by
     simp only[List.flatten_cons,List.flatten_append]
     rw[←List.append_assoc]
     exact List.perm_append_comm.append_right _
    refine(w2.sub (OO':=Cs2.flatten::Cs.flatten::OO2) ?_).of pm.symm
    simp only[List.flatten_cons,List.cons_append]
    exact(List.Sublist.append (List.Sublist.refl _) (List.sublist_cons_self _ _)).trans (List.sublist_cons_self _ _)
   have m3:Xr (hid H2 (((p2, .lst ys)::Cs2.flatten)::((p, .lst xs)::Cs.flatten)::OO2)) (hid H2 ((Cs++Cs2).flatten::OO2)):=Zo (Xr.refl _) λb hb=>by
    rw[XD,List.flatten_append,List.map_append,List.mem_append,List.mem_append] at hb
    rw[XD,XD,List.mem_append,List.mem_append]
    rcases hb with(hb |hb) |hb
    ·exact .inr (.inl (List.mem_cons_of_mem _ hb))
    ·exact .inl (List.mem_cons_of_mem _ hb)
    ·exact .inr (.inr hb)
   have w4:=w3.new ha (o:=.lst (xs++ys)) rfl
   have m4:=Jl (OO:=(Cs++Cs2).flatten::OO2) ha (o:=.lst (xs++ys))
   have pf:((((a, .lst (xs++ys))::(Cs++Cs2).flatten))::OO2).flatten.Perm ([(a,HO.lst (xs++ys))]::(Cs++Cs2).flatten::OO2).flatten:=by simp
   have m5:Xr (hid H2 ((Cs++Cs2).flatten::OO2)) (hid (upd H2 a (.lst (xs++ys))) (((a, .lst (xs++ys))::(Cs++Cs2).flatten)::OO2)):=by
    rw[Xx pf];exact m4
   refine P3 (.ref a) ((a, .lst (xs++ys))::(Cs++Cs2).flatten) _ ((s1.trans s2).trans (Xz ha _)) (w4.of pf) (((m1.trans m2).trans m3).trans m5) ⟨a,xs++ys,Cs++Cs2,rfl,?_,rfl⟩
   exact L2.P3.app (q.imp λ_ _ _ h=>z.mono ((m2.trans m3).trans m5) h) (q2.imp λ_ _ _ h=>z.mono (m3.trans m5) h)
end
section
variable {X:Cx}
end
section
variable {K:PySem.W.Frag}{Er:Exc->Hp->Prop}{S:SC}{OO OO' OO1 OO2:List (List Xy)}{σ:St}{α β γ ρ ι δ ε:Type}
end
section
variable {K:PySem.W.Frag}{Er:Exc->Hp->Prop}{S:SC}{OO OO' OO1 OO2:List (List Xy)}{σ:St}{α β γ ρ ι δ ε:Type}
noncomputable def tk (k:List Int):List Key:=k.map Sum.inl
variable {Fd:Ends->β->Hp->Prop}[fd:FdOk Fd]{u:TS}
end
section
variable {X:Cx}{α:Type}[DecidableEq α]{r:Enc α}{d:Nat}
end
section
variable {K:PySem.W.Frag}{Er:Exc->Hp->Prop}{S:SC}{OO OO' OO1 OO2:List (List Xy)}{σ:St}{α β γ ρ ι δ ε:Type}
end
section
variable {X:Cx}{pins:List (Addr×Obj)}{σ:St}{H:Hp}{s:Shared}{h':Heap}
theorem Inv.turns {t':Nat}{ch:List Addr}(I:Inv X pins σ H s)(k:∀b o,b∉ch->s.heap.get? b=some o->h'.get? b=some o)(hf:∀b∈ch,Ga X pins H b):Inv X pins σ H {s with heap:=h',toks:=t'}:=by
 have nit:∀b o,H b=some o->b∉ch:=λb o e z=>by rw[(hf b z).1] at e;cases e
 refine I.step (g':=s.gens) (d':=s.drawn) (ch:=ch) (λb hb=>?_) (λb o _ _ hc e _=>k b o hc e) (λb o _ _ hc e _=>⟨o.slots,k b o hc e⟩)
  (λb o _ e n=>n) (λb o hc e=>⟨o,k b o hc e⟩) (λb xs e=>e) (λb o xs e=>e) (λb ps e=>⟨#[],by rw[e];simp⟩) (λm hm=>?_) (λb v e=>?_) I.bare
 ·obtain⟨f0,f1,f2,f3,f4,f5⟩:=hf b hb
  exact⟨f3,f1,f4,f5⟩
 ·obtain⟨o,es,ep,ho,r⟩:=hm
  exact⟨o,es,ep,k _ o (λz=>(hf _ z).2.1 rfl) ho,r⟩
 ·refine(I.hok b v e).stay (λc o hc q=>k c o ?_ q) (λc q=>q) λc xs q=>q
  rcases hc with z |z
  ·rw[z];exact nit b v e
  ·exact nit c _ z
end
noncomputable def Itz (K:PySem.W.Frag)(a b:Addr):It:=
 ⟨λi H=>∃ xs ys x y,SqL K H a xs/\SqL K H b ys/\xs[i]?=some x/\ys[i]?=some y,λi H v H'=>∃ p x y,v= .ref p/\H p=none/\H'=upd H p (.tup [x,y])/\(∀xs,SqL K H a xs->xs[i]?=some x)/\∀ys,SqL K H b ys->ys[i]?=some y,
  λi H=>∃ xs ys,SqL K H a xs/\SqL K H b ys/\(xs.length<=i∨ys.length<=i)⟩
theorem Mz {b z t u v x:Addr}(h:b∉ [z,t,u,v,x]):b≠z/\b≠t/\b≠u/\b≠v/\b≠x:=⟨λe=>h (e▸ .head _),λe=>h (e▸ .tail _ (.head _)),λe=>h (e▸ .tail _ (.tail _ (.head _))),λe=>h (e▸ .tail _ (.tail _ (.tail _ (.head _)))),λe=>h (e▸ .tail _ (.tail _ (.tail _ (.tail _ (.head _)))))⟩
theorem Mh {p:Addr->Prop}{z t u v x:Addr}(h1:p z)(h2:p t)(h3:p u)(h4:p v)(h5:p x):∀b∈[z,t,u,v,x],p b:=
 List.forall_mem_cons.mpr ⟨h1,List.forall_mem_cons.mpr ⟨h2,List.forall_mem_cons.mpr ⟨h3,List.forall_mem_cons.mpr ⟨h4,List.forall_mem_cons.mpr ⟨h5,λ_ h=>(List.not_mem_nil h).elim⟩⟩⟩⟩⟩
theorem BG {P:Program}{w:World}{K:PySem.W.Frag}{elts:List Expr}{k:Nat}{pos:Pos}{z TI TO i1 i2 l1 l2:Addr}(ap:ZipApart z TI TO i1 i2 l1 l2):
  Turn P w K (.Tuple elts k pos) (Itz K l1 l2) [z,TI,TO,i1,i2] z (λi h=>IsZip h z TI TO .none/\IsPair h TI (.ref i1) (.ref i2)/\(∃a b,IsPair h TO a b)/\h.IsListIter i1 l1 i/\h.IsListIter i2 l2 i) where
 mem:=.head _
 obj:=λi h st=>by
  obtain⟨h1,h2,⟨a,c,h3⟩,⟨o4,h4,c4,d4⟩,⟨o5,h5,c5,d5⟩⟩:=st
  exact Mh ⟨_,h1,λv z=>by cases z⟩ ⟨_,h2,λv z=>by cases z⟩ ⟨_,h3,λv z=>by cases z⟩ ⟨o4,h4,λv z=>by rw[d4] at z;cases z⟩ ⟨o5,h5,λv z=>by rw[d5] at z;cases z⟩
 keep:=λi h h' st k=>⟨k z (.head _) _ st.1,k TI (.tail _ (.head _)) _ st.2.1,let ⟨a,b,q⟩:=st.2.2.1;⟨a,b,k TO (.tail _ (.tail _ (.head _))) _ q⟩,st.2.2.2.1.at λo q=>k i1 (.tail _ (.tail _ (.tail _ (.head _)))) o q,st.2.2.2.2.at λo q=>k i2 (.tail _ (.tail _ (.tail _ (.tail _ (.head _))))) o q⟩
 item:=by
  intro X hP hw hK hc i pins s σ H E I hf st hg
  subst hP hw hK
  obtain⟨xs,ys,x,y,hq1,hq2,hx,hy⟩:=hg
  obtain⟨its1,rv1,p1,_⟩:=I.list hq1
  obtain⟨its2,rv2,p2,_⟩:=I.list hq2
  obtain⟨u,hu,ru⟩:=rv1.get hx
  obtain⟨v,hv,rv⟩:=rv2.get hy
  obtain⟨h1,h2,⟨a,c,h3⟩,h4,h5⟩:=id st
  refine wpAny_pyNext_zip_item ap h1 h2 h3 h4 h5 p1.isList p2.isList (x:=u) (y:=v) (by simpa using hu) (by simpa using hv) λh' z' TO' i1' i2' tup sz kk=>?_
  have hT:∀b o,s.heap.get? b=some o->s.heap.objs.size≠b:=λb o q z=>absurd (Heap.lt_size q) (by rw[←z];exact Nat.lt_irrefl _)
  have tz:=hT z _ h1
  have tTI:=hT TI _ h2
  have tTO:=hT TO _ h3
  have t1:s.heap.objs.size≠i1:=by obtain⟨o,q,_⟩:=h4;exact hT i1 o q
  have t2:s.heap.objs.size≠i2:=by obtain⟨o,q,_⟩:=h5;exact hT i2 o q
  refine⟨_,rfl,wpAny_letOwnedTupleGo_zip z' λh'' z'' sb=>?_⟩
  have k1:∀b o,b≠z->h'.get? b=some o->h''.get? b=some o:=λb o hb e=>(sb.2 b hb).trans e
  have k2:∀b o,b∉ [z,TI,TO,i1,i2]->s.heap.get? b=some o->h''.get? b=some o:=λb o q1 q=>let f:=Mz q1;k1 b o f.1 (kk b o f.1 f.2.2.1 f.2.2.2.1 f.2.2.2.2 q)
  refine⟨.ref s.heap.objs.size,upd H s.heap.objs.size (.tup [x,y]),I.turnLay (h':=h'') (t':=s.toks) k2 hf (Nat.le_refl _) ⟨by show 2<=sizeLine;decide,[u,v], .cons ru (.cons rv .nil),⟨_,k1 _ _ tz tup,⟨rfl,rfl⟩,_,rfl⟩⟩,rfl,
   ⟨_,x,y,rfl,I.hok.fresh (Nat.le_refl _),rfl,λzs hz=>by rw[I.list_inj hz hq1];exact hx,λzs hz=>by rw[I.list_inj hz hq2];exact hy⟩,⟨z'',k1 _ _ ap.TIz (kk _ _ ap.TIz ap.TITO ap.TIi1 ap.TIi2 h2),⟨_,_,k1 _ _ ap.TOz TO'⟩,i1'.at λo q=>k1 _ _ ap.i1z q,i2'.at λo q=>k1 _ _ ap.i2z q⟩,λb hb=>?_⟩
  exact(Xs (Mh (p:=λb=>b≠s.heap.objs.size) tz.symm tTI.symm tTO.symm t1.symm t2.symm b hb)).trans (hf b hb).1
 done:=by
  intro X hP hw hK hc i pins s σ H E I hf st hg
  subst hP hw hK
  obtain⟨xs,ys,hq1,hq2,hx⟩:=hg
  obtain⟨its1,rv1,p1,_⟩:=I.list hq1
  obtain⟨its2,rv2,p2,_⟩:=I.list hq2
  obtain⟨h1,h2,⟨a,c,h3⟩,h4,h5⟩:=id st
  have hl1:=rv1.length
  have hl2:=rv2.length
  refine wpAny_pyNext_zip_end (I.ok.hd hc) ap h1 h2 h3 h4 h5 p1.isList p2.isList (hx.elim (λh=>.inl (by simp;omega)) λh=>.inr (by simp;omega)) λh' kk=>⟨rfl,I.turns (t':=s.toks) (ch:=[z,TI,TO,i1,i2]) (λb o q1 q=>let f:=Mz q1;kk b o f.1 f.2.2.1 f.2.2.2.1 f.2.2.2.2 q) hf⟩
 self:=λ_ _ _ _ _ st h=>wpAny_pyIter_zip st.1 h
section
variable {X:Cx}{elts:List Expr}{k:Nat}{pos0:Pos}
noncomputable def Mu (K:PySem.W.Frag)(t:TA):TI:=λσ H R=>t σ H λvs H1=>∃ a b,vs=[.ref a, .ref b]/\(∃xs,SqL K H1 a xs)/\(∃ys,SqL K H1 b ys)/\R (Itz K a b) H1
theorem Lv {e:Expr}{es:List Expr}{t:TA}{p pos:Pos}(K:PySem.W.Frag)(hK:X.K=K)(hg:Gl X "zip")(hm:X.mg "zip" =none)(ha:PA X (e::es) t)
  (he:starEach (e::es) X.env=(false,eval e X.env)::starEach es X.env:=by rfl)(hpl:(backTo pos (starEach es X.env)).any (·.1)=false:=by rfl):PI X (.Tuple elts k pos0) (.Call (.Name "zip" p) (e::es) [] pos) (Mu K t):=by
 subst hK
 intro pins s σ H R I h
 refine wpAny_Call_Name_kw (VU I hg hm boot_zip ?_)
 refine PyProof.Rows.callWith_type1 (thn (ha pos pins s σ H _ I h) λus s1 r9=>?_) he hpl
 obtain⟨vs,H1,I1,r1,q1⟩:=r9
 obtain⟨a,b,rfl,⟨xs,hq1⟩,⟨ys,hq2⟩,q⟩:=q1
 obtain⟨u,v,rfl,ru,rv⟩:=Yl.two r1
 cases ru
 cases rv
 obtain⟨its1,_,pl1,_⟩:=I1.list hq1
 obtain⟨its2,_,pl2,_⟩:=I1.list hq2
 have l1:a<s1.heap.objs.size:=by obtain⟨o,n,ho,_⟩:=pl1;exact Heap.lt_size ho
 have l2:b<s1.heap.objs.size:=by obtain⟨o,n,ho,_⟩:=pl2;exact Heap.lt_size ho
 refine call_zip_2 pl1.isList pl2.isList λh' hz hTI hTO i1 i2 sz kk=>?_
 refine wpAny_pyIter_zip hz ?_
 have hge:∀c:Nat,s1.heap.objs.size<=c->Ga X pins H1 c:=λc hc=>I1.fpOk hc (I1.hok.fresh hc)
 generalize s1.heap.objs.size=n0 at l1 l2 hz hTI hTO i1 i2 hge⊢
 have l1': @LT.lt Nat _ a n0:=l1
 have l2': @LT.lt Nat _ b n0:=l2
 have ap:ZipApart (n0+4) (n0+2) (n0+3) n0 (n0+1) a b:=by
  constructor<;> (intro z;have z: @Eq Nat _ _:=z;omega)
 refine⟨_,[n0+4,n0+2,n0+3,n0,n0+1],_,_,H1,rfl,I1.kept (t':=s1.toks) kk,BG ap,⟨hz,hTI,⟨_,_,hTO⟩,i1,i2⟩,λc hb=>hge c ?_,q⟩
 simp only[List.mem_cons,List.not_mem_nil,or_false] at hb
 rcases hb with rfl |rfl |rfl |rfl |rfl
 ·exact Nat.le_add_right _ _
 ·exact Nat.le_add_right _ _
 ·exact Nat.le_add_right _ _
 ·exact Nat.le_refl _
 ·exact Nat.le_add_right _ _
end
section
variable {K:PySem.W.Frag}{Er:Exc->Hp->Prop}{S:SC}{OO OO' OO1 OO2:List (List Xy)}{σ:St}{α β γ ρ ι δ ε:Type}
theorem Bz {ta tb:TE}{r:Enc α}{q:Enc γ}[z:MonoE r][y:MonoE q]{ma:Rs (List α)}{mb:Rs (List γ)}(ha:EvS K Er S OO σ ta (rV r) ma)(hb:EvS K Er S OO σ tb (rV q) mb):Walk K Er S OO σ (Mu K (XO ta (XO tb Jf))) (rP2 r q) (ma.bind λas=>mb.bind λbs=>.ok (as.zip bs)):=⟨fun {H R} w s P=>by
 refine ha H _ w s ?_
 cases em:ma with
 |bad=>rw[em] at P;exact P
 |err x=>rw[em] at P;exact P
 |ok as=>
  rw[em] at P
  intro v H1 s1 ⟨p,xs,e,hp,pr⟩
  refine hb H1 _ (w.keep s1) (S.mono _ _ (Xh s1) s) ?_
  have P1:PZ Er _ H (mb.bind λbs=>.ok (as.zip bs)):=P
  cases en:mb with
  |bad=>rw[en] at P1;exact P1
  |err x=>rw[en] at P1;exact λH2 s2=>P1 H2 (s1.trans s2)
  |ok bs=>
   rw[en] at P1
   intro v2 H2 s2 ⟨p2,ys,e2,hp2,pr2⟩
   have hp':=Xh (OO:=OO) s2 _ _ hp
   refine⟨p,p2,by rw[e,e2],⟨xs,SqL.of (Xn _ _ hp')⟩,⟨ys,SqL.of (Xn _ _ hp2)⟩,P1 _ H2 (s1.trans s2) ?_ ?_⟩
   ·intro i c hc OO2 H3 w3 m3
    rw[List.getElem?_zip_eq_some] at hc
    obtain⟨x,hx,rx⟩:=Paired.getR pr hc.1
    obtain⟨x2,hx2,rx2⟩:=Paired.getR pr2 hc.2
    have q1:SqL K H3 p xs:=SqL.of (Xn _ _ (m3 _ _ hp'))
    have q2:SqL K H3 p2 ys:=SqL.of (Xn _ _ (m3 _ _ hp2))
    refine⟨⟨xs,ys,x,x2,q1,q2,hx,hx2⟩,λyv H4 h4=>?_⟩
    obtain⟨b,x',y',rfl,hb,rfl,g1,g2⟩:=h4
    have e1:=g1 xs q1
    have e3:=g2 ys q2
    rw[hx] at e1
    rw[hx2] at e3
    cases e1
    cases e3
    refine⟨Xz hb _,⟨b,x,x2,rfl,Zv w3 hb,z.mono (((Xh s2).trans m3).trans (Xh (Xz hb _))) rx,y.mono (m3.trans (Xh (Xz hb _))) rx2⟩⟩
   ·intro OO2 H3 w3 m3
    refine⟨xs,ys,SqL.of (Xn _ _ (m3 _ _ hp')),SqL.of (Xn _ _ (m3 _ _ hp2)),?_⟩
    rw[List.length_zip,Paired.len pr,Paired.len pr2]
    omega⟩
end
section
variable {X:Cx}
theorem Ud (K:PySem.W.Frag)(hK:X.K=K):Ml X (HF K):=by
 subst hK
 intro pins s σ H x y v u Q I rx ry h
 obtain⟨p,xs,i,z,rfl,rfl,hq,he,q⟩:=h
 cases rx
 obtain⟨t,rfl⟩:=ry
 obtain⟨its,r,pl,hz⟩:=I.list hq
 obtain⟨j,h1,h2,h3,h4,h5⟩:=KP he
 obtain⟨w,ew,rw'⟩:=r.get h2
 have hl:=r.length
 have hn:=U5
 have fin:EP X pins σ Q w s:=⟨z,H,I,rw',q⟩
 by_cases h0:0<=i
 ·have hj:i.toNat=j:=by
   rw[seqIndex_of h0 h5] at h1
   exact Option.some.inj h1
  exact wpAny_getItem_list pl.isList h0 (by omega) (by rw[hj];simpa using ew) fin
 ·have hj:(i+(its.toArray.size:Int)).toNat=j:=by
   rw[seqIndex_neg (by omega) h4] at h1
   rw[List.size_toArray, ←hl]
   exact Option.some.inj h1
  exact wpAny_getItem_list_neg pl.isList (by omega) (by rw[List.size_toArray]<;> omega) (by omega) (by rw[hj];simpa using ew) fin
end
section
variable {K:PySem.W.Frag}{Er:Exc->Hp->Prop}{S:SC}{OO OO' OO1 OO2:List (List Xy)}{σ:St}{α β γ ρ ι δ ε:Type}
variable {Fd:Ends->β->Hp->Prop}[fd:FdOk Fd]{u:TS}
theorem UL {ti te:TE}{g:Int->Int->Int}{mi m:Rs Int}{f:List Int->Rs β}{v:V}{as:List Int}{C:List Xy}(i k:Nat)(hσ:σ[i]?=some (some v))(hk:OO[k]?=some C)(h:∀x,S.p x->oL (oF Xa) K x v as C)(hi:EvB K Er S OO σ ti Xa mi)(he:EvB K Er S OO σ te Xa m)
  (hr:∀bs C',Sv Er (S.addO K (oL (oF Xa)) v bs C') (OO.set k C') σ u Fd (f bs)):Sv Er S OO σ (JC (Ia (F5 i) ti te (HF K) (ipI g) He) u) Fd (mi.bind λj=>(atR as j).bind λx=>m.bind λb=>(Vd as j (g x b)).bind f):=λH D w s P=>
 ⟨v,hσ,hi.st w s P λj zj H1 s1 w1 q1 r1 P1=>by
  cases ea:atR as j with
  |bad=>rw[ea] at P1;exact P1.elim
  |err x=>exact absurd ea Gy
  |ok x=>
   rw[ea] at P1
   obtain⟨kk,hkk,hrow⟩:=IA ea
   obtain⟨p,xs,Cs,e,q,c⟩:=h _ q1
   subst c
   have hH:H1 p=some (.lst xs):=w1.tr (p, .lst xs) (List.mem_flatten.mpr ⟨_,List.mem_of_getElem? hk,List.mem_cons_self⟩)
   obtain⟨xv,Dv,g1,g2,g3⟩:=q.get hrow
   refine⟨p,xs,j,xv,e,r1,SqL.of hH,by unfold atI;rw[q.len.1,hkk];exact g1,he.st w1 q1 P1 λb y H2 s2 w2 q2 r2 P2=>⟨x,b,g3.2,r2,?_⟩⟩
   have hH2:H2 p=some (.lst xs):=w2.tr (p, .lst xs) (List.mem_flatten.mpr ⟨_,List.mem_of_getElem? hk,List.mem_cons_self⟩)
   have es:Vd as j (g x b)= .ok (as.set kk (g x b)):=by unfold Vd;rw[hkk]
   rw[es] at P2
   have hjl:kk<as.length:=(List.getElem?_eq_some_iff.mp hrow).1
   have hjC:kk<Cs.length:=by rw[q.len.2];exact hjl
   have hp:=GO (Cs:=Cs) (j:=kk) (D:=[]) hjC
   obtain⟨w3,m3⟩:=Mg (xs':=xs.set kk (.int (g x b))) (Cs':=Cs.set kk []) w2.nil hk (λc hc=>hp.mem_iff.mp (List.mem_append_left _ hc)) (ZP hp (J8 w2.nil hk))
   rw[Z0] at m3
   refine⟨p,xs,j,kk,e,r1,hH2,by rw[q.len.1];exact hkk,hr _ _ _ D w3 ⟨S.mono _ _ m3 q2,⟨p,_,_,e,P3.imp (λ_ _ _ z=>MonoO.mono m3 z) (P3.set (show oF Xa K _ (.int (g x b)) (g x b) [] from⟨rfl,rfl⟩) kk (P3.imp (λ_ _ _ z=>MonoO.mono (Xh s2) z) q)),rfl⟩⟩ (PZ.tr (fd.tr D) m3 P2)⟩⟩
end
section
variable {K:PySem.W.Frag}{Er:Exc->Hp->Prop}{S:SC}{OO OO' OO1 OO2:List (List Xy)}{σ:St}{α β γ ρ ι δ ε:Type}{u:TS}
noncomputable def JA:Nat->γ->(γ->Rs Bool)->(γ->Rs (Ctl ρ γ))->Rs (Ctl ρ γ)
 |0,_,_,_=>.bad
 |n+1,g,c,f=>(c g).bind λb=>if b=true then(f g).bind λr=>match r with
  | .ret r=>.ok (.ret r)
  | .nx g'=>JA n g' c f else .ok (.nx g)
theorem CA {o:OE ρ}{c:TT}{tb:TS}{mc:γ->Rs Bool}{body:γ->Rs (Ctl ρ γ)}{f:γ->Rs ρ}(J:Jn γ ι)(n:Nat)(x0:ι)(g0:γ)(h1:OO=J.oo x0)(h2:σ=J.ss x0)(h3:∀h,S.p h->(J.sc g0 x0).p h)
  (hc:∀g x,EvT Er (J.sc g x) (J.oo x) (J.ss x) c (mc g))(hb:∀g x,Sv Er (J.sc g x) (J.oo x) (J.ss x) tb (FCd K o J) (body g))
  (hr:∀g x,Sv Er (J.sc g x) (J.oo x) (J.ss x) u (FTd K o) (f g)):Sv Er S OO σ (JC (Cn c tb) u) (FTd K o) ((JA n g0 mc body).bind (Jg f)):=λH D w s P=>by
 refine⟨λmm σ' H2=>∃ x gg,σ'=J.ss x/\W (J.oo x) H2/\(J.sc gg x).p (hid H2 (J.oo x))/\PZ Er (FTd K o D) (hid H2 (J.oo x)) ((JA mm gg mc body).bind (Jg f)),⟨n,x0,g0,h2,by rw[←h1];exact w,by rw[←h1];exact h3 _ s,by rw[←h1];exact P⟩,?_⟩
 rintro mm σ' H2 ⟨x,gg,rfl,w2,sc2,P2⟩
 cases mm with
 |zero=>exact P2.elim
 |succ mm=>
  have P3:PZ Er (FTd K o D) (hid H2 (J.oo x)) ((mc gg).bind λb=>(if b=true then(body gg).bind λr=>match r with
   | .ret r=>.ok (.ret r)
   | .nx g'=>JA mm g' mc body else .ok (.nx gg)).bind (Jg f)):=by rw[←X7];exact P2
  refine(hc gg x).st w2 sc2 P3 λb H3 w3 sc3 P4=>?_
  cases b with
  |false=>exact hr gg x H3 D w3 sc3 P4
  |true=>
   rw[if_pos rfl] at P4⊢
   refine⟨λσ3 H4=>∃ x gg,σ3=J.ss x/\W (J.oo x) H4/\(J.sc gg x).p (hid H4 (J.oo x))/\PZ Er (FTd K o D) (hid H4 (J.oo x)) ((JA mm gg mc body).bind (Jg f)),λσ3 H4 q=>⟨mm,Nat.lt_succ_self _,q⟩,hb gg x H3 _ w3 sc3 ?_⟩
   rw[X7] at P4
   cases eb:body gg with
   |bad=>rw[eb] at P4;exact P4
   |err x=>rw[eb] at P4;exact P4
   |ok c=>
    rw[eb] at P4
    cases c with
    |ret r=>exact P4
    |nx g'=>exact λx' H5 w5 m5 sc5=>⟨x',g',rfl,w5,sc5,PZ.tr (FdOk.tr D) m5 P4⟩
end
section
variable {X:Cx}
end
section
variable {K:PySem.W.Frag}{Er:Exc->Hp->Prop}{S:SC}{OO:List (List Xy)}{σ:St}
end
section
variable {X:Cx}{pins:List (Addr×Obj)}{σ:St}{H:Hp}{s:Shared}{d:Addr}{o:Obj}{kvs:List (Key×V)}
theorem VM:entryFor table "dict_itemiterator.__iter__" =some Builtin.«dict_keyiterator.__iter__»:=
 entryFor_alias (id':="dict_keyiterator.__iter__") (by kernel_rfl) rfl (by decide+kernel) (by kernel_rfl)
theorem Vb {prog:Program}{w:World}{A:Around}{E:Value->Shared->Prop}{it d:Addr}{i n ep:Nat}{ok ov:Value}{Q:Value->Shared->Prop}(hit:IsItemIter s.heap it d i n ep ok ov)(h:Q (.ref it) s):wpAny (model prog w) A (pyIter (.ref it)) Q E s:=by
 have ht:s.TypeIs (.ref it) "dict_itemiterator":=⟨_,hit,rfl⟩
 refine wpAny_pyIter_slot ht F.slot_dict_itemiterator_iter (wpAny_call_entry F.slot_dict_itemiterator_iter ht VM ?_ (F.args_dict_itemiterator_iter_1 _))
 show wpAny _ _ (ret (.ref it)) _ _ s
 exact wpAny_pure ⟨_,rfl,"dict_itemiterator",_,ht,F.slot_dict_itemiterator_next.lookup,h⟩
theorem KV.valAt {kvs:List (Key×V)}{vs:List (Key×Value)}(h:KV kvs vs):∀{i:Nat} (h1:i<kvs.length) (h2:i<vs.length),Yc (kvs[i]).2 (vs[i]).2:=by
 induction h with
 |nil=>intro i h1;exact absurd h1 (Nat.not_lt_zero _)
 |cons r _ ih=>
  intro i h1 h2
  cases i with
  |zero=>exact r.2
  |succ i=>exact ih (Nat.lt_of_succ_lt_succ h1) (Nat.lt_of_succ_lt_succ h2)
noncomputable def Iti (d:Addr)(o:Obj)(kvs:List (Key×V)):It:=
 ⟨λi H=>H d=some (.frz o (.dK kvs))/\i<kvs.length,λi H v H'=>∃ p kv,v= .ref p/\H p=none/\H'=upd H p (.tup [kV kv.1,kv.2])/\kvs[i]?=some kv,λi H=>H d=some (.frz o (.dK kvs))/\kvs.length<=i⟩
theorem Fb {P:Program}{w:World}{K:PySem.W.Frag}{elts:List Expr}{k:Nat}{pos:Pos}{es:Array DictEntry}{ep:Nat}(d it:Addr)(o:Obj)(kvs:List (Key×V))(hd:o.data= .dict es ep):Turn P w K (.Tuple elts k pos) (Iti d o kvs) [it] it (λi h=>∃ ok ov,IsItemIter h it d i kvs.length ep ok ov) where
 mem:=.head _
 obj:=λi h st b hb=>by
  have e:b=it:=List.mem_singleton.mp hb
  subst e
  obtain⟨ok,ov,e⟩:=st
  exact⟨_,e,λv z=>by cases z⟩
 keep:=λi h h' ⟨ok,ov,st⟩ k=>⟨ok,ov,k it (.head _) _ st⟩
 item:=by
  intro X hP hw hK hc i pins s σ H E I hf st hg
  subst hP hw hK
  obtain⟨he,hlt⟩:=hg
  obtain⟨_,vs,rel,da⟩:=I.dictAt he hd
  have hl:=rel.length
  obtain⟨ok,ov,st⟩:=st
  rw[hl] at st
  have hlt':i<kvs.length:=hlt
  have hv:vs[i]?=some (vs[i].1,vs[i].2):=by simp[show i<vs.length by omega]
  refine wpAny_pyNext_items_item st da hv λkey h' hk out tup sz kk=>?_
  have tz:s.heap.objs.size≠it:=λz=>absurd (Heap.lt_size st) (by rw[←z];exact Nat.lt_irrefl _)
  refine⟨_,rfl,wpAny_letOwnedTupleGo_items out λh'' st'' sb=>?_⟩
  have k1:∀b o,b≠it->h'.get? b=some o->h''.get? b=some o:=λb o hb e=>(sb.2 b hb).trans e
  have k2:∀b o,b∉ [it]->s.heap.get? b=some o->h''.get? b=some o:=λb o q1 q=>k1 b o (λe=>q1 (e▸ .head _)) (kk b o (λe=>q1 (e▸ .head _)) q)
  have hkv:(kvs[i]).1=(vs[i]).1:=KV.key rel hlt' (by omega)
  refine⟨.ref s.heap.objs.size,upd H s.heap.objs.size (.tup [kV (kvs[i]).1,(kvs[i]).2]),I.turnLay (h':=h'') (t':=s.toks) k2 hf (Nat.le_refl _) ⟨by show 2<=sizeLine;decide,[key,(vs[i]).2], .cons (by rw[hkv];exact Cd hk) (.cons (KV.valAt rel hlt' (by omega)) .nil),⟨_,k1 _ _ tz tup,⟨rfl,rfl⟩,_,rfl⟩⟩,rfl,
   ⟨_,kvs[i],rfl,I.hok.fresh (Nat.le_refl _),rfl,by simp[hlt']⟩,⟨_,_,by rw[hl];exact st''⟩,λb hb=>?_⟩
  have h0:=(hf b hb).1
  have e:b=it:=List.mem_singleton.mp hb
  rw[Xs (by rw[e];exact tz.symm)];exact h0
 done:=by
  intro X hP hw hK hc i pins s σ H E I hf st hg
  subst hP hw hK
  obtain⟨he,hlt⟩:=hg
  obtain⟨_,vs,rel,da⟩:=I.dictAt he hd
  have hl:=rel.length
  obtain⟨ok,ov,st⟩:=st
  rw[hl] at st
  obtain⟨f0,f1,f2,f3,f4,f5⟩:=hf it (.head _)
  exact wpAny_pyNext_items_end (I.ok.hd hc) st da (List.getElem?_eq_none (by omega)) λh' eb=>⟨rfl,I.turned (t':=s.toks) (λb o hb e=>eb b o hb e) f0 f1 f3 f4 f5⟩
 self:=λ_ _ _ _ _ st h=>Vb st.choose_spec.choose_spec h
noncomputable def En (tl:TE):TI:=λσ H R=>tl σ H λx H1=>∃ a o kvs,x= .ref a/\H1 a=some (.frz o (.dK kvs))/\R (Iti a o kvs) H1
theorem CZ {elts:List Expr}{k:Nat}{pos0:Pos}{l:Expr}{tl:TE}{apos cpos:Pos}(hl:PE X l tl)
  (hbase:attributeBase l "items" X.env (eval l X.env)=eval l X.env:=by rfl)(hline:(apos.endLine==cpos.line)=true:=by rfl):PI X (.Tuple elts k pos0) (.Call (.Attribute l "items" apos) [] [] cpos) (En tl):=by
 intro pins s σ H R I h
 refine wpAny_Call_method0_late hbase hline (thn (hl pins s σ H _ I h) λv s1 r9=>?_)
 obtain⟨x,H1,I1,r1,q1⟩:=r9
 obtain⟨a,o,kvs,e,he,q⟩:=q1
 subst e
 cases r1
 obtain⟨h1,_,hs,vs,rel,o',es,ep,g1,g2,g3,g4⟩:=(show YH X.prog X.w H1 s1.heap a (.frz o (.dK kvs)) from I1.hok a _ he)
 rw[h1] at g1
 cases g1
 have hm:s1.heap.DictAt (X8 X.prog X.w) a vs ep:=⟨o,es,h1,g2,g3,g4⟩
 refine⟨"dict","dict.items",F.plainAttrs_dict,F.slot_dict_items,F.type_dict_items,hm.dictOf.typeIs,hm.dictOf.mapOf.noDict,?_⟩
 refine method_meetsIn F.slot_dict_items F.entry_dict_items rfl (PySem.evalArgs_none ⟨rfl,hm.dictOf.typeIs,F.args_dict_items_1 _,_,meets_dict_items (X8 X.prog X.w) a hs,⟨vs,hm.dictOf⟩,?_⟩)
 refine wpAny_pyIter_items (knd:=X8 X.prog X.w) (d:=a) (kvs:=vs) (ep:=ep) ⟨_,Heap.get?_push_size _ rfl,rfl,rfl⟩ (hm.push _) ?_
 rw[←rel.length]
 refine⟨_,[_],_,_,H1,rfl,I1.kept (t':=s1.toks) λb o e=>Heap.get?_push_of_some _ (Heap.get?_push_of_some _ e),Fb a _ o kvs g3,⟨_,_,Heap.get?_push_size _ rfl⟩,λb hb=>?_,q⟩
 have e:=List.mem_singleton.mp hb
 subst e
 have hge:s1.heap.objs.size<=(s1.heap.push {cls:=.type "dict_items",data:=.fields #[.ref a]}).objs.size:=by rw[Heap.size_push];exact Nat.le_succ _
 exact I1.fpOk hge (I1.hok.fresh hge)
end
section
variable {X:Cx}
noncomputable def ipD:TIp:=λx y H Q=>∃ i j,x= .int i/\y= .int j/\MD i j/\Q (.int (i/j)) H
theorem Ha:PIp X .FloorDiv ipD:=by
 intro pins s σ H x y v u Q I r1 r2 h
 obtain⟨i,j,e1,e2,hc,q⟩:=h
 subst e1;subst e2
 obtain⟨t,rfl⟩:=r1
 obtain⟨t',rfl⟩:=r2
 have h1:(0:Int)<j:=hc.1
 have h2:j<1073741824:=hc.2
 exact ifloordiv_int (by omega) (by rw[Int.fdiv_eq_ediv_of_nonneg i (by omega)];exact⟨.int _,H,I.tok _,⟨_,rfl⟩,q⟩) (.inl (PyProof.noPylong_small (by omega)))
end
section
variable {K:PySem.W.Frag}{Er:Exc->Hp->Prop}{S:SC}{OO OO' OO1 OO2 OO3:List (List Xy)}{σ:St}{α β γ ρ ι δ ε ζ:Type}
variable {Fd:Ends->β->Hp->Prop}[fd:FdOk Fd]{u:TS}
noncomputable def Ly (a b:Int):Rs Int:=chk (0<b/\b<1073741824) (.ok (a/b))
theorem Ez {te:TE}{m:Rs Int}{f:Int->Rs β}{v:V}{a:Int}(i:Nat)(hσ:σ[i]?=some (some v))(h:∀x,S.p x->Xa K x v a)(he:EvB K Er S OO σ te Xa m)
  (hr:∀b v,Sv Er (S.add K Xa v b) OO (σ.set i (some v)) u Fd (f b)):Sv Er S OO σ (JC (Lz i te ipD) u) Fd (m.bind λb=>(Ly a b).bind f):=λH D w s P=>
 ⟨v,hσ,he.st w s P λb y H1 s1 w1 q1 r1 P1=>by
  cases e:Ly a b with
  |bad=>rw[e] at P1;exact P1.elim
  |err x=>exact absurd e Qa
  |ok c=>
   rw[e] at P1
   obtain⟨h1,h2⟩:=Zm e
   cases h2
   exact⟨a,b,h _ s,r1,h1,hr _ _ H1 D w1 ⟨q1,rfl⟩ P1⟩⟩
instance {o:OE α}[m:FlatT o]:FlatT (oL o):=⟨λs r9=>by obtain⟨p,xs,Cs,e,q,c⟩:=r9;exact⟨p,xs,Cs,e,q.imp λ_ _ _ z=>m.flat s z,c⟩⟩
theorem KL {te:TE}{r:Enc α}[z:MonoE r]{m:Rs (List (Int×α))}(he:EvS K Er S OO σ te (rDf r) m):Walk K Er S OO σ (En te) (rP2 Xa r) m:=⟨fun {H R} w s P=>by
 refine he H _ w s ?_
 cases em:m with
 |bad=>rw[em] at P;exact P
 |err x=>rw[em] at P;exact P
 |ok d=>
  rw[em] at P
  intro v H' s' ⟨p,o,kvs,e,hp,pr⟩
  refine⟨p,o,kvs,e,Xn _ _ hp,P _ H' s' ?_ ?_⟩
  ·intro i a ha OO2 H2 w2 m2
   obtain⟨kv,hkv,rk⟩:=Paired.getR pr ha
   have hl:i<kvs.length:=(List.getElem?_eq_some_iff.mp hkv).1
   refine⟨⟨Xn _ _ (m2 _ _ hp),hl⟩,λy H3 h3=>?_⟩
   obtain⟨b,kv',rfl,hb,rfl,hy⟩:=h3
   rw[hkv] at hy
   cases hy
   refine⟨Xz hb _,⟨b,_,_,rfl,Zv w2 hb,?_,z.mono (m2.trans (Xh (Xz hb _))) rk.2⟩⟩
   show kV kv.1= .int a.1
   rw[rk.1]
   rfl
  ·intro OO2 H2 w2 m2
   exact⟨Xn _ _ (m2 _ _ hp),by rw[Paired.len pr];exact Nat.le_refl _⟩⟩
theorem Ma {o:OE α}[z:MonoO o]{xs:List V}{as:List α}{Cs:List (List Xy)}{H H0:Hp}{Q:VK}{OO0:List (List Xy)}(w:W (Cs.flatten::OO) H)(m0:Xr (hid H0 OO0) (hid H (Cs.flatten::OO)))(s0:Xr H0 H)(pr:P3 (o K (hid H (Cs.flatten::OO))) xs as Cs)(P:FO K OO0 OO (oL o) Q as H0):∀p,H p=none->Q (.ref p) (upd H p (.lst xs)):=λp hp=>by
 have hn:=Jl (OO:=Cs.flatten::OO) hp (o:=.lst xs)
 have wn:=w.new hp (o:=.lst xs) rfl
 have pe:(((p,HO.lst xs)::Cs.flatten)::OO).flatten.Perm ([(p,HO.lst xs)]::Cs.flatten::OO).flatten:=by simp
 refine P (.ref p) ((p, .lst xs)::Cs.flatten) _ (s0.trans (Xz hp _)) (wn.of pe) ?_ ?_
 ·rw[Xx pe];exact m0.trans hn
 ·rw[Xx pe]
  exact⟨p,xs,Cs,rfl,pr.imp λ_ _ _ h=>z.mono hn h,rfl⟩
theorem Hq {t:TA}{o:OE α}[z:MonoO o]{m:Rs (List α)}(h:LF K Er S OO OO' σ t o m):Ev K Er S OO OO' σ (LD t) (oL o) (m.bind λas=>chk (as.length<=sizeLine) (.ok as)):=λH Q w s P=>by
 refine h H _ w s ?_
 cases e:m with
 |bad=>rw[e] at P;exact P
 |err x=>rw[e] at P;exact P
 |ok as=>
  rw[e] at P
  obtain⟨hsz,P⟩:=PZ.chk (show PZ Er _ H (chk (as.length<=sizeLine) (.ok as)) from P)
  intro vs Cs H1 s1 w1 m1 p
  exact⟨by rw[p.len.1];exact hsz,Ma w1 m1 s1 p P⟩
noncomputable def oT3 (o:OE α)(q:OE β)(t:OE γ):OE (α×β×γ):=λK h v a C=>∃ p x y z C1 C2 C3,v= .ref p/\h p=some (.tup [x,y,z])/\o K h x a.1 C1/\q K h y a.2.1 C2/\t K h z a.2.2 C3/\C=C1++(C2++C3)
instance {o:OE α}{q:OE β}{t:OE γ}[m:MonoO o][n:MonoO q][k:MonoO t]:MonoO (oT3 o q t):=⟨λs r9=>by obtain⟨p,x,y,z,C1,C2,C3,e,h,h1,h2,h3,c⟩:=r9;exact⟨p,x,y,z,C1,C2,C3,e,s _ _ h,m.mono s h1,n.mono s h2,k.mono s h3,c⟩⟩
instance {o:OE α}{q:OE β}{t:OE γ}[m:FlatO o][n:FlatO q][k:FlatO t]:FlatO (oT3 o q t):=⟨λs r9=>by obtain⟨p,x,y,z,C1,C2,C3,e,h,h1,h2,h3,c⟩:=r9;exact⟨p,x,y,z,C1,C2,C3,e,s _ _ h rfl,m.flat s h1,n.flat s h2,k.flat s h3,c⟩⟩
instance {o:OE α}{q:OE β}{t:OE γ}{ro:Enc α}{rq:Enc β}{rt:Enc γ}[m:FrzC o ro][n:FrzC q rq][k:FrzC t rt]:FrzC (oT3 o q t) (rP3 ro rq rt):=⟨λ⟨p,x,y,z,C1,C2,C3,e,h,h1,h2,h3,c⟩ s hc=>by
 subst c
 exact⟨p,x,y,z,e,s _ _ h,m.frz h1 s λc hm=>hc c (by simp[hm]),n.frz h2 s λc hm=>hc c (by simp[hm]),k.frz h3 s λc hm=>hc c (by simp[hm])⟩⟩
theorem Qz {ta tb tc:TE}{o:OE α}{q:OE β}{t:OE γ}[zo:MonoO o][zq:MonoO q][zt:MonoO t]{ma:Rs α}{mb:Rs β}{mc:Rs γ}(ha:Ev K Er S OO OO1 σ ta o ma)(hb:∀C,Ev K Er S (C::OO1) (C::OO2) σ tb q mb)(hc:∀C C',Ev K Er S (C'::C::OO2) (C'::C::OO3) σ tc t mc):
  Ev K Er S OO OO3 σ (HM (XO ta (XO tb (XO tc Jf)))) (oT3 o q t) (ma.bind λa=>mb.bind λb=>mc.bind λc=>.ok (a,b,c)):=λH Q w s P=>by
 refine ha H _ w s ?_
 cases em:ma with
 |bad=>rw[em] at P;exact P
 |err x=>rw[em] at P;exact P
 |ok a=>
  rw[em] at P
  intro v C H1 s1 w1 m1 ho
  refine hb C H1 _ w1 (S.mono _ _ m1 s) ?_
  have P1:PZ Er (FO K OO OO3 (oT3 o q t) Q) H (mb.bind λb=>mc.bind λc=>.ok (a,b,c)):=P
  cases en:mb with
  |bad=>rw[en] at P1;exact P1
  |err x=>rw[en] at P1;exact λH2 s2=>P1 H2 (s1.trans s2)
  |ok b=>
   rw[en] at P1
   have P2:PZ Er (FO K OO OO3 (oT3 o q t) Q) H (mc.bind λc=>.ok (a,b,c)):=P1
   intro v2 C2 H2 s2 w2 m2 ho2
   refine hc C C2 H2 _ w2 (S.mono _ _ (m1.trans m2) s) ?_
   cases ek:mc with
   |bad=>rw[ek] at P2;exact P2
   |err x=>rw[ek] at P2;exact λH3 s3=>P2 H3 (s1.trans (s2.trans s3))
   |ok c=>
    rw[ek] at P2
    have P3:FO K OO OO3 (oT3 o q t) Q (a,b,c) H:=P2
    intro v3 C3 H3 s3 w3 m3 ho3
    refine⟨by show 3<=sizeLine;decide,λp hp=>?_⟩
    have pe:((C++(C2++C3))::OO3).flatten.Perm (C3::C2::C::OO3).flatten:=by
     have q:(C++(C2++C3)).Perm (C3++(C2++C)):=by
      rw[←List.append_assoc C3]
      exact List.perm_append_comm.trans ((List.perm_append_comm (l₁:=C2) (l₂:=C3)).append_right _)
     have:=q.append_right OO3.flatten
     simpa[List.append_assoc] using this
    have s4:Xr H3 (upd H3 p (.tup [v,v2,v3])):=Xz hp _
    have w4:=(w3.keep s4).of pe
    have m4:Xr (hid H3 (C3::C2::C::OO3)) (hid (upd H3 p (.tup [v,v2,v3])) ((C++(C2++C3))::OO3)):=by rw[Xx pe];exact Xh s4
    refine P3 (.ref p) (C++(C2++C3)) _ (s1.trans (s2.trans (s3.trans s4))) w4 (m1.trans (m2.trans (m3.trans m4))) ⟨p,v,v2,v3,C,C2,C3,rfl,?_,zo.mono (m2.trans (m3.trans m4)) ho,zq.mono (m3.trans m4) ho2,zt.mono m4 ho3,rfl⟩
    rw[Xx pe]
    exact Zv w3 hp
end
section
variable {K:PySem.W.Frag}{Er:Exc->Hp->Prop}{S:SC}{OO OO' OO1 OO2:List (List Xy)}{σ:St}{α β γ ρ ι δ ε ζ:Type}
variable {Fd:Ends->β->Hp->Prop}[fd:FdOk Fd]{u:TS}
end
section
variable {K:PySem.W.Frag}{Er:Exc->Hp->Prop}{S:SC}{OO OO' OO1 OO2:List (List Xy)}{σ:St}{α β γ ρ ι δ ε ζ:Type}
variable {Fd:Ends->β->Hp->Prop}[fd:FdOk Fd]{u:TS}
end
section
variable {K:PySem.W.Frag}{Er:Exc->Hp->Prop}{S:SC}{OO OO' OO1 OO2:List (List Xy)}{σ:St}{α β γ ρ ι δ ε ζ α1 α3 α4:Type}
variable {Fd:Ends->β->Hp->Prop}[fd:FdOk Fd]{u:TS}
noncomputable def Mt (K:PySem.W.Frag)(o:OE ρ)(q:OE γ)(v2:V)(Q:VK)(x:ρ×γ)(h:Hp):Prop:=∀ v C C' H',W [C++C'] H'->Xr h (hid H' [C++C'])->o K (hid H' [C++C']) v x.1 C->q K (hid H' [C++C']) v2 x.2 C'->Q v H'
noncomputable def LC (K:PySem.W.Frag)(o:OE ρ)(q:OE γ)(v2:V)(D:Ends)(x:ρ×γ)(h:Hp):Prop:=∀ v C C' OO' H',W (C::C'::OO') H'->Xr h (hid H' (C::C'::OO'))->o K (hid H' (C::C'::OO')) v x.1 C->q K (hid H' (C::C'::OO')) v2 x.2 C'->D.rt v H'
instance {o:OE ρ}{q:OE γ}{v2:V}:FdOk (LC K o q v2):=⟨λD b h h' s q v C C' O H' w m x y=>q v C C' O H' w (s.trans m) x y⟩
theorem Bt {te:TE}{o:OE ρ}{q:OE γ}[zq:MonoO q][zo:MonoO o]{m:Rs ρ}{v2:V}{a2:γ}{Cp:List Xy}(k:Nat)(hk:OO'[k]?=some Cp)(hf:∀x,S.p x->q K x v2 a2 Cp)(he:Ev K Er S OO OO' σ te o m):Sv Er S OO σ (JC (LA te) u) (LC K o q v2) (m.bind λr=>.ok (r,a2)):=λH D w s P=>
 he H _ w s (by
  cases m with
  |bad=>exact P
  |err x=>exact λH' s'=>P H' (Xn.trans s')
  |ok a=>
   intro v C H' s' w' m' ho
   have pe:(C::Cp::OO'.set k []).flatten.Perm (C::OO').flatten:=by
    rw[List.flatten_cons,List.flatten_cons (l:=C)]
    exact(XF hk).append_left C
   have P:LC K o q v2 D (a,a2) (hid H OO):=P
   refine P v C Cp (OO'.set k []) H' (w'.of pe) ?_ ?_ ?_
   ·rw[Xx pe];exact m'
   ·rw[Xx pe];exact ho
   ·rw[Xx pe];exact zq.mono m' (hf _ s))
theorem Iz {o:OE ρ}[zo:MonoO o]{q:OE γ}[zq:MonoO q]{t:TS}{m:Rs (ρ×γ)}{Q:VK}{b:ρ×γ}{H:Hp}{D:Ends}{v2:V}{C:List Xy}(n k:Nat)(hkn:k<n)(h:Sv (λ_ _=>False) S ((List.replicate n []).set k C) σ t (LC K o q v2) m)(w:W [C] H)(hs:S.p (hid H [C]))(hm:m= .ok b)(qf:Mt K o q v2 Q b (hid H [C]))(hD:D.rt=Q):t D σ H:=by
 have pe:((List.replicate n []).set k C).flatten.Perm [C].flatten:=by
  have h1:=XF (OO:=(List.replicate n []).set k C) (k:=k) (C:=C) (by simp[hkn])
  have e:((List.replicate n ([]:List Xy)).set k C).set k []=List.replicate n []:=by
   rw[List.set_set]
   apply List.ext_getElem?
   intro m
   by_cases hm:m=k
   ·subst hm;simp[hkn]
   ·rw[List.getElem?_set_ne (λe=>hm e.symm)]
  rw[e,List.flatten_cons,Y9] at h1
  simpa using h1.symm
 refine h H D (w.of pe) (by rw[Xx pe];exact hs) ?_
 subst hm
 rw[Xx pe]
 intro v C1 C2 OO' H' w' m' h1 h2
 rw[hD]
 have hsub:Xr (hid H' (C1::C2::OO')) (hid H' [C1++C2]):=Zo (Xr.refl _) λb hb=>by
  rw[XD,XD, ←List.append_assoc]
  refine List.mem_append_left _ ?_
  simpa[fl] using hb
 exact qf v C1 C2 H' (w'.sub (by simp)) (m'.trans hsub) (zo.mono hsub h1) (zq.mono hsub h2)
end
end L2
namespace L2
open PySem
noncomputable def Inc (xs:Array Nat):Prop:=xs.toList.Pairwise (· < ·)
theorem Inc.lt {xs:Array Nat}(h:Inc xs){i j v u:Nat}(hij:i<j)(hi:xs[i]?=some v)(hj:xs[j]?=some u):v<u:=by
 rw[←Array.getElem?_toList] at hi hj
 obtain⟨a,rfl⟩:=List.getElem?_eq_some_iff.mp hi
 obtain⟨b,rfl⟩:=List.getElem?_eq_some_iff.mp hj
 exact List.pairwise_iff_getElem.mp h i j a b hij
theorem Inc.le {xs:Array Nat}(h:Inc xs){i j v u:Nat}(hij:i<=j)(hi:xs[i]?=some v)(hj:xs[j]?=some u):v<=u:=by
 rcases Nat.lt_or_eq_of_le hij with z |z
 ·exact Nat.le_of_lt (h.lt z hi hj)
 ·subst z;rw[hi] at hj;cases hj;exact Nat.le_refl _
structure TOk (t:SetTable)(led:Bool):Prop where
 inc:Inc t.place
 dum:t.dummies= #[]
 led:t.led=led
theorem TOk.fresh (f m:Nat)(led:Bool):TOk (.fresh f m led) led:=⟨List.Pairwise.nil,rfl,rfl⟩
end L2
namespace L2
open PySem PySem.Spec PyProof.Rows
theorem Bw {vs:List Value}{ms:List Int}(h:IntsAre vs ms)(k:Int):(∃v∈vs,Value.isInt k v=true)↔k∈ms:=by
 induction h with
 |nil=>simp
 |cons n t _ ih=>
  rw[List.mem_cons, ←ih]
  constructor
  ·rintro⟨v,hv,e⟩
   rcases List.mem_cons.mp hv with z |z
   ·subst z;obtain⟨t',e'⟩:=Value.isInt_shape e;cases e';exact .inl rfl
   ·exact .inr ⟨v,z,e⟩
  ·rintro(z | ⟨v,hv,e⟩)
   ·subst z;exact⟨_, .head _,beq_self_eq_true _⟩
   ·exact⟨v, .tail _ hv,e⟩
theorem Ce {vs vs':List Value}(p:vs'.Perm vs):∀{ms:List Int},IntsAre vs ms->∃ms',IntsAre vs' ms'/\ms'.Perm ms:=by
 induction p with
 |nil=>intro ms h;exact⟨ms,h, .refl _⟩
 |cons x _ ih=>
  intro ms h
  cases h with
  |cons n t h=>obtain⟨m,a,b⟩:=ih h;exact⟨n::m, .cons n t a,b.cons _⟩
 |swap x y l=>
  intro ms h
  cases h with
  |cons n t h=>cases h with
   |cons m u h=>exact⟨_, .cons m u (.cons n t h), .swap ..⟩
 |trans _ _ ih1 ih2=>
  intro ms h
  obtain⟨m,a,b⟩:=ih2 h
  obtain⟨m',a',b'⟩:=ih1 a
  exact⟨m',a',b'.trans b⟩
noncomputable def dd (l:List Int):List Int:=l.foldl step_dedup []
structure SCore (prog:Program)(w:World)(es:Array (Int×Value))(t:SetTable)(ns:List Int):Prop where
 el:ElemsOf (intKind prog w) es.toList
 pm:∃ms,IntsAre (es.toList.map (·.2)) ms/\ms.Perm ns
 sz:es.size<scanBound
 fit:t.fits es.size=true
 tok:TOk t (!w.params.followText "set-order")
noncomputable def IC (prog:Program)(w:World)(h:Heap)(a:Addr)(ns:List Int):Prop:=
 ∃o es ep t,h.get? a=some o/\o.ExactSet/\o.data= .set es ep t/\SCore prog w es t ns
section
variable {prog:Program}{w:World}{A:Around}{E:Value->Shared->Prop}{s:Shared}{a:Addr}{ns:List Int}
theorem SCore.len {es:Array (Int×Value)}{t:SetTable}(c:SCore prog w es t ns):es.size=ns.length:=by
 obtain⟨ms,a,b⟩:=c.pm
 rw[←b.length_eq, ←IntsAre.length a,List.length_map,Array.length_toList]
theorem SCore.mem {es:Array (Int×Value)}{t:SetTable}(c:SCore prog w es t ns)(k:Int):(∃e∈es.toList,Value.isInt k e.2=true)↔k∈ns:=by
 obtain⟨ms,a,b⟩:=c.pm
 rw[←b.mem_iff, ←Bw a k]
 constructor
 ·rintro⟨e,h,z⟩;exact⟨e.2,List.mem_map_of_mem h,z⟩
 ·rintro⟨v,h,z⟩
  obtain⟨e,h1,rfl⟩:=List.mem_map.mp h
  exact⟨e,h1,z⟩
theorem SCore.perm {es es':Array (Int×Value)}{t t':SetTable}(c:SCore prog w es t ns)(p:es'.toList.Perm es.toList)(f:t'.fits es'.size=true)(k:TOk t' (!w.params.followText "set-order")):SCore prog w es' t' ns:=by
 obtain⟨ms,a,b⟩:=c.pm
 obtain⟨m,a',b'⟩:=Ce (p.map (·.2)) a
 have e:es'.size=es.size:=by rw[←Array.length_toList,p.length_eq,Array.length_toList]
 exact⟨c.el.perm p,⟨m,a',b'.trans b⟩,by rw[e];exact c.sz,f,k⟩
theorem IC.put {h:Heap}{o:Obj}{es es':Array (Int×Value)}{ep:Nat}{t t':SetTable}(ho:h.get? a=some o)(hx:o.ExactSet)(hd:o.data= .set es ep t):
  (h.update a (Obj.putSet es' t')).get? a=some {o with data:=.set es' (ep+1) t'}/\(SCore prog w es' t' ns->IC prog w (h.update a (Obj.putSet es' t')) a ns):=by
 have g:=Heap.get?_update_self (Obj.putSet es' t') ho (by rw[putSet_of es' t' hd];rfl)
 rw[putSet_of es' t' hd] at g
 exact⟨g,λc=>⟨_,_,_,_,g,hx,rfl,c⟩⟩
end
section
variable {prog:Program}{w:World}{A:Around}{E:Value->Shared->Prop}{s:Shared}
theorem IC.at {h h':Heap}{a:Addr}{ns:List Int}(x:IC prog w h a ns)(k:∀o,h.get? a=some o->h'.get? a=some o):IC prog w h' a ns:=
 let ⟨o,es,ep,t,ho,r⟩:=x;⟨o,es,ep,t,k o ho,r⟩
end
section
variable {M:Model}{A:Around}{E:Value->Shared->Prop}{s:Shared}
end
section
variable {prog:Program}{w:World}{A:Around}{E:Value->Shared->Prop}{s:Shared}{a:Addr}{o:Obj}{es:Array (Int×Value)}{ep:Nat}{t:SetTable}
end
section
variable {prog:Program}{w:World}{A:Around}{E:Value->Shared->Prop}{s:Shared}{a I tp:Addr}{o:Obj}{es:Array (Int×Value)}{ep:Nat}{t:SetTable}{L:List (Int×Value)}
inductive SMode (w:World)(a:Addr)(es:Array (Int×Value))(ep:Nat)(t:SetTable)(tp:Addr)(L:List (Int×Value))(h:Heap)(i:Nat):Value->Prop
 |text (sl:Nat) (hT:w.params.followText "set-order" =true) (hL:L=(pickOrder (w.params.setOrder a ep) es).toList):SMode w a es ep t tp L h i (.int sl 0)
 |plain (sl:Nat) (hT:w.params.followText "set-order" =false) (hp:(!t.plain&&decide (es.size > 1))=false) (hL:L=es.toList) (hb:SetTable.below t.place sl=i):SMode w a es ep t tp L h i (.int sl 0)
 |drawn (ps:List Nat) (hg:h.get? tp=some {cls:=.type "tuple",data:=.seq (ps.map λi=>Value.int (i:Nat) 0).toArray}) (hn:ps.length=L.length) (hL:∀(i:Nat) pl,ps[i]?=some pl->L[i]?=es[pl]?):SMode w a es ep t tp L h i (.ref tp)
structure SIt (w:World)(I a:Addr)(es:Array (Int×Value))(ep:Nat)(t:SetTable)(tp:Addr)(L:List (Int×Value))(o:Obj)(i:Nat)(h:Heap):Prop where
 it:∃ob first,h.get? I=some ob/\ob.cls= .type "set_iterator" /\ob.data= .fields #[first, .int i 0, .ref a, .int es.size 0, .int ep 0]/\SMode w a es ep t tp L h i first
 st:h.get? a=some o
theorem SMode.at {h h':Heap}{i:Nat}{v:Value}(m:SMode w a es ep t tp L h i v)(k:∀o,h.get? tp=some o->h'.get? tp=some o):SMode w a es ep t tp L h' i v:=by
 cases m with
 |text sl hT hL=>exact .text sl hT hL
 |plain sl hT hp hL hb=>exact .plain sl hT hp hL hb
 |drawn ps hg hn hL=>exact .drawn ps (k _ hg) hn hL
end
section
variable {prog:Program}{w:World}{A:Around}{E:Value->Shared->Prop}{s:Shared}{a I tp:Addr}{o:Obj}{es:Array (Int×Value)}{ep:Nat}{t:SetTable}{L:List (Int×Value)}{ns:List Int}
theorem SIt.frame {i:Nat}{h h':Heap}(x:SIt w I a es ep t tp L o i h)(k:∀b∈[I,a,tp],∀o,h.get? b=some o->h'.get? b=some o):SIt w I a es ep t tp L o i h':=by
 obtain⟨⟨ob,f,h1,h2,h3,m⟩,h4⟩:=x
 exact⟨⟨ob,f,k I (by simp) _ h1,h2,h3,m.at λo e=>k tp (by simp) o e⟩,k a (by simp) _ h4⟩
end
section
variable {X:Cx}
end
section
variable {K:PySem.W.Frag}{Er:Exc->Hp->Prop}{S:SC}{OO:List (List Xy)}{σ:St}
variable {u:TS}{α γ ρ ι:Type}
variable {β:Type}{Fd:Ends->β->Hp->Prop}[fd:FdOk Fd]
end
section
variable {α β γ:Type}
end
section
variable {K:PySem.W.Frag}{Er:Exc->Hp->Prop}{S:SC}{OO:List (List Xy)}{σ:St}{α1 α2 α3 α4 ρ:Type}{mg:Str->Option Value}{E:XK}
end
section
variable {X:Cx}{tg:Expr}
end
section
variable {K:PySem.W.Frag}{Er:Exc->Hp->Prop}{S:SC}{OO OO':List (List Xy)}{σ:St}{α β γ:Type}
theorem P3.reverse {δ:Type}{F:α->γ->δ->Prop}:∀{l m n},P3 F l m n->P3 F l.reverse m.reverse n.reverse:=λp=>by
 induction p with
 |nil=>exact .nil
 |cons r _ ih=>rw[List.reverse_cons,List.reverse_cons,List.reverse_cons];exact ih.snoc r
variable {u:TS}{Fd:Ends->β->Hp->Prop}[fd:FdOk Fd]
end
section
variable {K:PySem.W.Frag}{Er:Exc->Hp->Prop}{S:SC}{OO:List (List Xy)}{σ:St}{α β γ ι:Type}{u:TS}{Fd:Ends->β->Hp->Prop}[fd:FdOk Fd]
end
section
variable {K:PySem.W.Frag}{Er:Exc->Hp->Prop}{S:SC}{OO:List (List Xy)}{σ:St}{α β:Type}
end
noncomputable def MK (A:Around)(s:Shared)(v u:Value)(b:Bool):Prop:=
 ∀(prog:Program) (w:World) (E:Value->Shared->Prop) (Q:Value->Shared->Prop),Q (.bool b) s->wpAny (model prog w) A (richCompare .Lt v u) Q E s
structure LtOk {α:Type}(r:Enc α)(lt:α->α->Bool)(d:Nat):Prop where
 at':∀{X:Cx}{pins:List (Addr×Obj)}{σ:St}{H:Hp}{s:Shared}{x y:V}{v u:Value}{a b:α}{A:Around},Inv X pins σ H s->Yc x v->Yc y u->r X.K H x a->r X.K H y b->A.units+d<cLine->MK A s v u (lt a b)
noncomputable def ltI (a b:Int):Bool:=decide (a<b)
theorem lt_int:LtOk Xa ltI 0:=⟨fun {X pins σ H s x y v u a b A} I rx ry h1 h2 _ prog w E Q q=>by
 have e1:x=V.int a:=h1
 have e2:y=V.int b:=h2
 subst e1 e2
 obtain⟨t,rfl⟩:=rx
 obtain⟨t',rfl⟩:=ry
 exact CmpOf.ints_lt (P:=λj v=>∃ t,v= .int (if j=0 then a else b) t) (λj=>if j=0 then a else b) (λ_ _ h=>h) 0 1 _ _ _ _ _ ⟨t,rfl⟩ ⟨t',rfl⟩ q⟩
section
variable {α:Type}[DecidableEq α]{r:Enc α}{lt:α->α->Bool}{d:Nat}
theorem LtOk.imp {q:Enc α}(L:LtOk r lt d)(h:∀{K:PySem.W.Frag}{H:Hp}{v:V}{a:α},q K H v a->r K H v a):LtOk q lt d:=⟨λI rx ry h1 h2 hu=>L.at' I rx ry (h h1) (h h2) hu⟩
end
section
variable {α:Type}
noncomputable def kp (kf:Value->α)(d:α)(xs:Array Keyed)(i:Nat):α:=(xs[i]?.map λp=>kf p.1).getD d
structure Ord (lt:α->α->Bool):Prop where
 irr:∀a,lt a a=false
 tr:∀{a b c},lt a b=true->lt b c=true->lt a c=true
structure SB (κ:SortKind)(a0:Array Keyed)(st:SortSt):Prop where
 perm:(arrOf st).Perm a0
 kind:kindOf st=κ
 failed:failedOf st=none
 pend:pendingOf st= #[]
theorem SB.size {κ:SortKind}{a0:Array Keyed}{st:SortSt}(h:SB κ a0 st):(arrOf st).size=a0.size:=h.perm.size_eq
structure Asks (prog:Program)(w:World)(A:Around)(E:Value->Shared->Prop)(s:Shared)(κ:SortKind)(lt:α->α->Bool)(kf:Value->α)(d:α)(a0:Array Keyed):Prop extends Ord lt where
 ask:∀{st:SortSt}{i j:Nat}{Q:Option Bool->SortSt->Prop},SB κ a0 st->i<a0.size->j<a0.size->Q (some (lt (kp kf d (arrOf st) i) (kp kf d (arrOf st) j))) st->wpS (model prog w) A E s (ltAt' i j) Q st
 two:∀{st:SortSt}{i j:Nat},SB κ a0 st->i<a0.size->j<a0.size->i≠j->lt (kp kf d (arrOf st) i) (kp kf d (arrOf st) j)=true∨lt (kp kf d (arrOf st) j) (kp kf d (arrOf st) i)=true
variable {prog:Program}{w:World}{A:Around}{E:Value->Shared->Prop}{s:Shared}{κ:SortKind}{lt:α->α->Bool}{kf:Value->α}{d:α}{a0:Array Keyed}
noncomputable def Ris (lt:α->α->Bool)(k:Nat->α)(n:Nat):Prop:=∀ i j,i<j->j<n->lt (k i) (k j)=true
noncomputable def Fal (lt:α->α->Bool)(k:Nat->α)(n:Nat):Prop:=∀ i j,i<j->j<n->lt (k j) (k i)=true
theorem Ris.more (O:Ord lt){k:Nat->α}{n:Nat}(h:Ris lt k n)(q:0<n->lt (k (n-1)) (k n)=true):Ris lt k (n+1):=λi j hij hj=>by
 rcases Nat.lt_or_ge j n with z |z
 ·exact h i j hij z
 ·have e:j=n:=by omega
  subst e
  rcases Nat.lt_or_ge i (j-1) with y |y
  ·exact O.tr (h i (j-1) y (by omega)) (q (by omega))
  ·rw[show i=j-1 by omega];exact q (by omega)
theorem Fal.more (O:Ord lt){k:Nat->α}{n:Nat}(h:Fal lt k n)(q:0<n->lt (k n) (k (n-1))=true):Fal lt k (n+1):=λi j hij hj=>by
 rcases Nat.lt_or_ge j n with z |z
 ·exact h i j hij z
 ·have e:j=n:=by omega
  subst e
  rcases Nat.lt_or_ge i (j-1) with y |y
  ·exact O.tr (q (by omega)) (h i (j-1) y (by omega))
  ·rw[show i=j-1 by omega];exact q (by omega)
theorem Asks.other (L:Asks prog w A E s κ lt kf d a0){st:SortSt}{i j:Nat}(B:SB κ a0 st)(hi:i<a0.size)(hj:j<a0.size)(n:i≠j)(h:lt (kp kf d (arrOf st) i) (kp kf d (arrOf st) j)=false):lt (kp kf d (arrOf st) j) (kp kf d (arrOf st) i)=true:=(L.two B hi hj n).resolve_left (by rw[h];decide)
end
section
variable {α β γ:Type}
theorem FY {f:α->β}{l' k:List β}(h:l'.Perm k):∀{l:List α},k=l.map f->∃m:List α,m.Perm l/\m.map f=l':=by
 induction h with
 |nil=>intro l e;cases l with
  |nil=>exact⟨[], .nil,rfl⟩
  |cons a l=>cases e
 |cons x _ ih=>intro l e;cases l with
  |nil=>cases e
  |cons a l=>
   injection e with e1 e2
   obtain⟨m,hm,em⟩:=ih e2
   exact⟨a::m,hm.cons a,by rw[List.map_cons,em,e1]⟩
 |swap x y t=>intro l e;cases l with
  |nil=>cases e
  |cons a l=>cases l with
   |nil=>cases e
   |cons b l=>
    injection e with e1 e2
    injection e2 with e2 e3
    exact⟨b::a::l, .swap ..,by rw[List.map_cons,List.map_cons,e1,e2,e3]⟩
 |trans _ _ ih1 ih2=>
  intro l e
  obtain⟨m2,h2,e2⟩:=ih2 e
  obtain⟨m1,h1,e1⟩:=ih1 e2.symm
  exact⟨m1,h1.trans h2,e1⟩
section
variable [DecidableEq α]{lt:α->α->Bool}
end
end
section
variable {prog:Program}{w:World}{A:Around}{E:Value->Shared->Prop}{s:Shared}{α:Type}
noncomputable def mid (h:Heap)(a:Addr)(vs:List Value):Heap:=((h.update a (Obj.mapSeq λ_=>#[])).push (seqObj "tuple" vs.toArray 0)).push (seqObj "list" #[] 0)
end
section
variable {X:Cx}{β:Type}[DecidableEq β]{r:Enc β}{lt:β->β->Bool}{d:Nat}
end
section
variable {X:Cx}{α:Type}
end
section
variable {K:PySem.W.Frag}{Er:Exc->Hp->Prop}{S:SC}{OO OO':List (List Xy)}{σ:St}{α β γ δ:Type}
theorem P3.tri {F:α->β->γ->Prop}:∀{l m n},P3 F l m n->∃T:List (α×β×γ),T.map (·.1)=l/\T.map (·.2.1)=m/\T.map (·.2.2)=n/\∀t∈T,F t.1 t.2.1 t.2.2:=λp=>by
 induction p with
 |nil=>exact⟨[],rfl,rfl,rfl,λt h=>nomatch h⟩
 |cons r _ ih=>
  obtain⟨T,e1,e2,e3,h⟩:=ih
  exact⟨(_,_,_)::T,by rw[List.map_cons,e1],by rw[List.map_cons,e2],by rw[List.map_cons,e3],λt ht=>(List.mem_cons.mp ht).elim (λz=>z▸r) (h t)⟩
theorem P3.oft {F:α->β->γ->Prop}:∀{T:List (α×β×γ)},(∀t∈T,F t.1 t.2.1 t.2.2)->P3 F (T.map (·.1)) (T.map (·.2.1)) (T.map (·.2.2)):=fun {T}=>by
 induction T with
 |nil=>intro _;exact .nil
 |cons t T ih=>intro h;exact .cons (h t List.mem_cons_self) (ih λu hu=>h u (List.mem_cons_of_mem _ hu))
theorem EZ {a a':List α}{b b':List β}(h:a.zip b=a'.zip b')(h1:a.length=b.length)(h2:a'.length=b'.length):a=a'/\b=b':=by
 have e1:=congrArg (List.map Prod.fst) h
 have e2:=congrArg (List.map Prod.snd) h
 rw[List.map_fst_zip (by omega),List.map_fst_zip (by omega)] at e1
 rw[List.map_snd_zip (by omega),List.map_snd_zip (by omega)] at e2
 exact⟨e1,e2⟩
theorem P3.perm {F:α->β->γ->Prop}{l zs:List α}{m bs:List β}{n:List γ}(p:P3 F l m n)(h:(zs.zip bs).Perm (l.zip m))(hl:zs.length=bs.length):∃n',P3 F zs bs n'/\n'.Perm n:=by
 obtain⟨T,e1,e2,e3,hT⟩:=p.tri
 have ez:T.map (λt=>(t.1,t.2.1))=l.zip m:=by rw[←e1, ←e2,List.zip_map']
 obtain⟨T',hp,e⟩:=FY h ez.symm
 have:(T'.map (·.1)).zip (T'.map (·.2.1))=zs.zip bs:=by rw[List.zip_map'];exact e
 obtain⟨f1,f2⟩:=EZ this (by simp) hl
 refine⟨T'.map (·.2.2),?_,by rw[←e3];exact hp.map _⟩
 rw[←f1, ←f2]
 exact P3.oft λt ht=>hT t (hp.mem_iff.mp ht)
end
section
variable {K:PySem.W.Frag}{Er:Exc->Hp->Prop}{S:SC}{OO OO':List (List Xy)}{σ:St}{α β:Type}{u:TS}{Fd:Ends->β->Hp->Prop}[fd:FdOk Fd]
end
section
variable {K:PySem.W.Frag}{Er:Exc->Hp->Prop}{S:SC}{OO OO':List (List Xy)}{σ:St}{α1 α2 β ρ:Type}{u:TS}
noncomputable def LJ (K:PySem.W.Frag)(o:OE ρ)(Cf:List Xy)(Q:VK)(b:ρ)(h:Hp):Prop:=∀ v C H',W [C++Cf] H'->Xr h (hid H' [C++Cf])->o K (hid H' [C++Cf]) v b C->Q v H'
noncomputable def EE (K:PySem.W.Frag)(o:OE ρ)(k:Nat)(Cf:List Xy)(D:Ends)(b:ρ)(h:Hp):Prop:=∀ v C OO' H',OO'[k]?=some Cf->W (C::OO') H'->Xr h (hid H' (C::OO'))->o K (hid H' (C::OO')) v b C->D.rt v H'
instance {o:OE ρ}{k:Nat}{Cf:List Xy}:FdOk (EE K o k Cf):=⟨λD b h h' s q v C O H' e w m x=>q v C O H' e w (s.trans m) x⟩
theorem QV {te:TE}{o:OE ρ}{m:Rs ρ}{Cf:List Xy}(k:Nat)(hk:OO'[k]?=some Cf)(he:Ev K Er S OO OO' σ te o m):Sv Er S OO σ (JC (LA te) u) (EE K o k Cf) m:=λH D w s P=>
 he H _ w s (by
  cases m with
  |bad=>exact P
  |err x=>exact λH' s'=>P H' (Xn.trans s')
  |ok a=>exact λv C H' s' w' m' ho=>P v C OO' H' hk w' m' ho)
theorem Ie {o:OE ρ}[zo:MonoO o]{t:TS}{m:Rs ρ}{Q:VK}{b:ρ}{H:Hp}{D:Ends}{Cf:List Xy}(n:Nat)(h:Sv (λ_ _=>False) S (List.replicate n []++[Cf]) σ t (EE K o n Cf) m)(w:W [Cf] H)(hs:S.p (hid H [Cf]))(hm:m= .ok b)(qf:LJ K o Cf Q b (hid H [Cf]))(hD:D.rt=Q):t D σ H:=by
 have pe:(List.replicate n ([]:List Xy)++[Cf]).flatten.Perm [Cf].flatten:=by
  rw[List.flatten_append,Y9,List.nil_append]
 refine h H D (w.of pe) (by rw[Xx pe];exact hs) ?_
 subst hm
 rw[Xx pe]
 intro v C OO' H' hk w' m' ho
 rw[hD]
 have hp:=XF hk
 have wk:W (C::Cf::OO'.set n []) H':=w'.of (by rw[List.flatten_cons,List.flatten_cons (l:=C)];exact hp.append_left C)
 have eh:hid H' (C::OO')=hid H' (C::Cf::OO'.set n []):=(Xx (by rw[List.flatten_cons,List.flatten_cons (l:=C)];exact hp.append_left C)).symm
 have hsub:Xr (hid H' (C::OO')) (hid H' [C++Cf]):=by
  rw[eh]
  exact Zo (Xr.refl _) λb hb=>by
   rw[XD,XD, ←List.append_assoc]
   refine List.mem_append_left _ ?_
   simpa[fl] using hb
 exact qf v C H' (wk.sub (by simp)) (m'.trans hsub) (zo.mono hsub ho)
theorem LU {o:OE ρ}{Q:VK}{b:ρ}{H:Hp}(w:W OO H)(P:FO K OO OO o Q b H):LJ K o OO.flatten Q b (hid H OO):=λv C H' w' m' ho=>by
 have e1:([C++OO.flatten]:List (List Xy)).flatten=(C::OO).flatten:=by simp
 have e2:hid H' [C++OO.flatten]=hid H' (C::OO):=by unfold hid fl;rw[e1]
 rw[e2] at m' ho
 have w2:W (C::OO) H':=w'.of (by rw[e1])
 refine P v C H' (λx ob hx=>?_) w2 m' ho
 by_cases hb:x∈fl OO
 ·obtain⟨oo,hoo⟩:=G5 hb
  have h1:=w.tr _ hoo
  rw[hx] at h1
  cases h1
  exact w2.tail.tr _ hoo
 ·exact(XI (m' _ _ (YM hx hb))).1
theorem BB {H:Hp}:hid H [OO.flatten]=hid H OO:=by unfold hid fl;rw[show([OO.flatten]:List (List Xy)).flatten=OO.flatten by simp]
theorem W.one {H:Hp}(w:W OO H):W [OO.flatten] H:=w.of (by simp)
end
section
variable {K:PySem.W.Frag}{Er:Exc->Hp->Prop}{S:SC}{OO OO':List (List Xy)}{σ:St}{α α2 β γ ρ:Type}
variable {Fd:Ends->β->Hp->Prop}[fd:FdOk Fd]{u:TS}
end
section
variable {prog:Program}{w:World}{A:Around}{E:Value->Shared->Prop}{s:Shared}
end
section
variable {X:Cx}
end
section
variable {K:PySem.W.Frag}{Er:Exc->Hp->Prop}{S:SC}{OO OO':List (List Xy)}{σ:St}{α β γ:Type}
end
section
variable {X:Cx}{α:Type}{r:Enc α}{lt:α->α->Bool}{d:Nat}
end
section
variable {K:PySem.W.Frag}{Er:Exc->Hp->Prop}{S:SC}{OO OO':List (List Xy)}{σ:St}{α:Type}
end
section
variable {X:Cx}{pins:List (Addr×Obj)}{σ:St}{H:Hp}{s0:Shared}
noncomputable def HA (X:Cx)(g:Heap)(d:Addr)(xs:List (List Key×Addr×Value)):Prop:=∃ o es ep,g.get? d=some o/\o.ExactDict/\o.data= .dict es ep/\es.toList=xs.map (entryOfKey (tupleKind (X8 X.prog X.w)))/\(xs.map (·.1)).Nodup
theorem HA.h {g:Heap}{tk:Nat}{d:Addr}{acc:List (List Key×V)}{xs:List (List Key×Addr×Value)}(D:HA X g d xs)(I:Inv X pins σ H {s0 with heap:=g,toks:=tk})(r:KT H acc xs):g.DictOfH (tupleKind (X8 X.prog X.w)) d xs:=by
 obtain⟨o,es,ep,h1,h2,h3,h4,h5⟩:=D
 refine⟨o,es,ep,h1,h2,h3,h4,λx hx=>?_,h5⟩
 have all:∀{l:List (List Key×V)}{m:List (List Key×Addr×Value)},KT H l m->∀x∈m,(tupleKind (X8 X.prog X.w)).is g x.1 x.2.1:=by
  intro l m q
  induction q with
  |nil=>intro x hx;exact nomatch hx
  | @cons p q ps qs hq t ih=>
   intro x hx
   rcases List.mem_cons.mp hx with e |hx
   ·subst e
    exact F3 I.hok (by rw[←hq.1];exact hq.2.1)
   ·exact ih x hx
 exact all r x hx
theorem HA.of {g:Heap}{d:Addr}{xs:List (List Key×Addr×Value)}(D:g.DictOfH (tupleKind (X8 X.prog X.w)) d xs):HA X g d xs:=by
 obtain⟨o,es,ep,h1,h2,h3,h4,_,h5⟩:=D
 exact⟨o,es,ep,h1,h2,h3,h4,h5⟩
theorem HA.at {g g':Heap}{d:Addr}{xs:List (List Key×Addr×Value)}(D:HA X g d xs)(k:∀o,g.get? d=some o->g'.get? d=some o):HA X g' d xs:=by
 obtain⟨o,es,ep,h1,r⟩:=D
 exact⟨o,es,ep,k o h1,r⟩
end
section
variable {K:PySem.W.Frag}{Er:Exc->Hp->Prop}{S:SC}{OO OO':List (List Xy)}{σ:St}{α β γ:Type}
end
section
variable {K:PySem.W.Frag}{Er:Exc->Hp->Prop}{S:SC}{OO:List (List Xy)}{σ:St}{α1 α2 α3 α4 α5 ρ:Type}{mg:Str->Option Value}{E:XK}
end
section
variable {X:Cx}{o e:Expr}{es:List Expr}{to:TE}{t:TA}{name:Str}{apos cpos:Pos}{id:String}{r:V->List V->Hp->VK->Prop}
end
section
variable {K:PySem.W.Frag}{Er:Exc->Hp->Prop}{S:SC}{OO:List (List Xy)}{σ:St}
end
section
variable {α β γ δ:Type}{K:PySem.W.Frag}{Er:Exc->Hp->Prop}{S:SC}{OO:List (List Xy)}{σ:St}{Fd:Ends->β->Hp->Prop}[fd:FdOk Fd]{u:TS}
end
end L2
namespace HT
open PySem PySem.Spec PyProof PyProof.Rows
section
variable {prog:Program}{w:World}{A:Around}{E:Value->Shared->Prop}{s:Shared}
end
end HT
namespace L2
open PySem PySem.Spec PyProof.Rows
section
variable {X:Cx}{e:Expr}{te:TE}
end
section
variable {α β:Type}{K:PySem.W.Frag}{Er:Exc->Hp->Prop}{S:SC}{OO:List (List Xy)}{σ:St}
end
section
variable {α β:Type}{K:PySem.W.Frag}{Er:Exc->Hp->Prop}{S:SC}{OO:List (List Xy)}{σ:St}{Fd:Ends->β->Hp->Prop}[fd:FdOk Fd]{u:TS}
end
section
variable {K:PySem.W.Frag}{Er:Exc->Hp->Prop}{S:SC}{OO OO' OO2:List (List Xy)}{σ:St}{α β γ ρ ι:Type}{mg:Str->Option Value}{E:XK}{u:TS}
end
section
variable {X:Cx}
end
section
variable {prog:Program}{w:World}{A:Around}{E:Value->Shared->Prop}{s:Shared}
end
section
variable {X:Cx}{o:Expr}{lo hi:Option Expr}{pos p2:Pos}{to:TE}{tl th:TO}
end
section
variable {X:Cx}{pins:List (Addr×Obj)}{σ:St}{H G:Hp}{s:Shared}{h':Heap}
end
section
variable {X:Cx}{l:Expr}{tl:TE}{pos npos apos cpos:Pos}
end
section
variable {X:Cx}
end
inductive Mx where
 |i (n:Int) |s (x:Str) |b (v:Bool)
 deriving DecidableEq
noncomputable def Mx.v:Mx->V
 | .i n=>.int n
 | .s x=>.str x
 | .b v=>.bl v
section
variable {K:PySem.W.Frag}{Er:Exc->Hp->Prop}{S:SC}{OO OO' OO1 OO2 OO3:List (List Xy)}{σ:St}{α β γ δ ρ:Type}{u:TS}
end
section
variable {K:PySem.W.Frag}{Er:Exc->Hp->Prop}{S:SC}{OO OO' OO1 OO2 OO3:List (List Xy)}{σ:St}{α β γ δ ρ ι:Type}{α1 α2 α3 α4 α5:Type}{u:TS}
variable {Fd:Ends->β->Hp->Prop}[fd:FdOk Fd]
theorem EvP.st {t:TO}{m:Rs (Option Int)}(he:EvP Er S OO σ t m){H:Hp}{D:Ends}{Q:Option Int->Hp->Prop}(w:W OO H)(s:S.p (hid H OO)){f:Option Int->Rs β}(P:PZ Er (Fd D) (hid H OO) (m.bind f))
  (hk:∀a H',Xr H H'->W OO H'->S.p (hid H' OO)->PZ Er (Fd D) (hid H' OO) (f a)->Q a H'):t σ H Q:=by
 refine he H Q w s ?_
 cases m with
 |bad=>exact P
 |err x=>exact λH' s'=>P H' (Xn.trans s')
 |ok a=>exact λH' s'=>hk a H' s' (w.keep s') (S.mono _ _ (Xh s') s) (PZ.tr (fd.tr D) (Xh s') P)
theorem De {te ts:TE}{r:Enc α}[z:MonoE r]{m:Rs (List α)}{ms:Rs Int}(he:EvL K Er S OO σ te r m)(hs:EvB K Er S OO σ ts Xa ms):Ev K Er S OO OO σ (Mm K te ts) (oL (oF r)) (m.bind λas=>ms.bind λk=>chk (k= -1) (.ok as.reverse)):=λH Q w s P=>
 he.run w s FO.tr P λas x H1 s1 w1 q1 ⟨p,xs,e,q,pr⟩ P1=>hs.run w1 q1 FO.tr P1 λk y H2 s2 w2 q2 r2 P2=>by
  obtain⟨hn,P3⟩:=PZ.chk P2
  exact⟨by rw[show y= .int k from r2,hn],p,xs,e,SqL.of (s2 _ _ q),HK w2 (L2.Paired.rev' (Paired.imp2 (λ_ _ h=>z.mono (Xh s2) h) pr)) P3⟩
section
variable {o:OE ρ}{kf:Nat}{Cf:List Xy}{J:Jn γ ι}
theorem JS {c:TT}{t1:TS}{mc:Rs Bool}{m1 m2:Rs ρ}(hc:EvT Er S OO σ c mc)(h1:Sv Er S OO σ t1 (EE K o kf Cf) m1)(h2:Sv Er S OO σ u (EE K o kf Cf) m2):Sv Er S OO σ (JC (HJ c t1 GU) u) (EE K o kf Cf) (mc.bind λb=>if b=true then m1 else m2):=λH D w s P=>
 hc.st (Fd:=EE K o kf Cf) w s P λb H' w' s' P'=>by
  cases b with
  |true=>rw[if_pos rfl] at P'⊢;exact h1 H' _ w' s' P'
  |false=>exact h2 H' D w' s' P'
end
end
section
variable {K:PySem.W.Frag}{Er:Exc->Hp->Prop}{S:SC}{OO:List (List Xy)}{σ:St}{α β γ ρ ι:Type}{u:TS}{Fd:Ends->β->Hp->Prop}[fd:FdOk Fd]
end
section
variable {K:PySem.W.Frag}{Er:Exc->Hp->Prop}{S:SC}{OO OO':List (List Xy)}{σ:St}{α1 α2 α3 β ρ:Type}{u:TS}
noncomputable def LS (r1:Enc α1)(r2:Enc α2)(r3:Enc α3)(o:OE ρ)(f:α1->α2->α3->Rs ρ)(K:PySem.W.Frag):Sp:=λvs H Q _=>∃ v1 v2 v3 a1 a2 a3 b,vs=[v1,v2,v3]/\∃Cf,W [Cf] H/\r1 K (hid H [Cf]) v1 a1/\r2 K (hid H [Cf]) v2 a2/\r3 K (hid H [Cf]) v3 a3/\f a1 a2 a3= .ok b/\LJ K o Cf Q b (hid H [Cf])
theorem DT {ta tb tc:TE}{r1:Enc α1}{r2:Enc α2}{r3:Enc α3}[z1:MonoE r1][z2:MonoE r2][z3:MonoE r3]{o:OE ρ}{f:α1->α2->α3->Rs ρ}{ma:Rs α1}{mb:Rs α2}{mc:Rs α3}(ha:EvS K Er S OO σ ta r1 ma)(hb:EvS K Er S OO σ tb r2 mb)(hc:EvS K Er S OO σ tc r3 mc):
  Ev K Er S OO OO σ (U4 (LS r1 r2 r3 o f K) [] E0 (XO ta (XO tb (XO tc Jf)))) o (ma.bind λa=>mb.bind λb=>mc.bind λc=>noE (f a b c)):=λH Q w s P=>
 ha.run w s FO.tr P λa x H1 s1 w1 q1 r1 P1=>hb.run w1 q1 FO.tr P1 λb y H2 s2 w2 q2 r2 P2=>hc.run w2 q2 FO.tr P2 λc z H3 s3 w3 q3 r3 P3=>by
  obtain⟨e,he,P5⟩:=P3.okOf λx=>VX
  have n2:=Xh (OO:=OO) s2
  have n3:=Xh (OO:=OO) s3
  exact⟨x,y,z,a,b,c,e,rfl,OO.flatten,w3.one,by rw[BB];exact z1.mono (n2.trans n3) r1,by rw[BB];exact z2.mono n3 r2,by rw[BB];exact r3,UT he,by rw[BB];exact LU w3 P5⟩
end
section
variable {K:PySem.W.Frag}{Er:Exc->Hp->Prop}{S:SC}{OO OO':List (List Xy)}{σ:St}{β γ δ ρ α1 α2 α3 α4:Type}
variable {Fd:Ends->β->Hp->Prop}[fd:FdOk Fd]{u:TS}
noncomputable def LG (r1:Enc α1)(r2:Enc α2)(r3:Enc α3)(r4:Enc α4)(q:OE γ)(o:OE ρ)(f:α1->α2->α3->α4->γ->Rs (ρ×γ))(K:PySem.W.Frag):Sp:=λvs H Q _=>∃ v1 v2 v3 v4 v5 a1 a2 a3 a4 a5 b,vs=[v1,v2,v3,v4,v5]/\∃C,W [C] H/\r1 K (hid H [C]) v1 a1/\r2 K (hid H [C]) v2 a2/\r3 K (hid H [C]) v3 a3/\r4 K (hid H [C]) v4 a4/\q K (hid H [C]) v5 a5 C/\f a1 a2 a3 a4 a5= .ok b/\Mt K o q v5 Q b (hid H [C])
theorem Fv {t1 t2 t3 t4:TE}{r1:Enc α1}{r2:Enc α2}{r3:Enc α3}{r4:Enc α4}[z1:MonoE r1][z2:MonoE r2][z3:MonoE r3][z4:MonoE r4]{q:OE γ}[zq:FlatO q][mq:MonoO q]{o:OE ρ}[zo:FlatO o][mo:MonoO o]{f:α1->α2->α3->α4->γ->Rs (ρ×γ)}{m1:Rs α1}{m2:Rs α2}{m3:Rs α3}{m4:Rs α4}{g:List ρ->γ->Rs β}{v vy:V}{as:List ρ}{ay:γ}{C0 Cy:List Xy}(i k j l:Nat)(hne:l≠k)(hσ:σ[i]?=some (some v))(hk:OO[k]?=some C0)(h:∀x,S.p x->oL o K x v as C0)
  (hσ2:σ[j]?=some (some vy))(hl:OO[l]?=some Cy)(h2:∀x,S.p x->q K x vy ay Cy)
  (e1:EvS K Er S OO σ t1 r1 m1)(e2:EvS K Er S OO σ t2 r2 m2)(e3:EvS K Er S OO σ t3 r3 m3)(e4:EvS K Er S OO σ t4 r4 m4)
  (hr:∀zs b2 C' C2,Sv Er ((S.addO K q vy b2 C').addO K (oL o) v zs C2) ((OO.set l C').set k C2) σ u Fd (g zs b2)):
  Sv Er S OO σ (JC (Bb (tBM K "list" KW (F5 i) (XO (U4 (LG r1 r2 r3 r4 q o f K) [] E0 (XO t1 (XO t2 (XO t3 (XO t4 (XO (F5 j) Jf)))))) Jf))) u) Fd (m1.bind λa=>m2.bind λb=>m3.bind λc=>m4.bind λd=>(noE (f a b c d ay)).bind λr=>chk (as.length<sizeLine) (g (as++[r.1]) r.2)):=λH D w s P=>by
 obtain⟨p,xs,Cs,e,qq,c⟩:=h _ s
 subst c
 have hH:H p=some (.lst xs):=w.tr (p, .lst xs) (List.mem_flatten.mpr ⟨_,List.mem_of_getElem? hk,List.mem_cons_self⟩)
 refine⟨v,hσ,by rw[e];exact .inl ⟨rfl,_,SqL.of hH⟩,e1.st w s P λa x1 H1 s1 w1 q1 y1 P1=>e2.st w1 q1 P1 λb x2 H2 s2 w2 q2 y2 P2=>e3.st w2 q2 P2 λc x3 H3 s3 w3 q3 y3 P3z=>e4.st w3 q3 P3z λd x4 H4 s4 w4 q4 y4 P4=>⟨vy,hσ2,?_⟩⟩
 cases en:f a b c d ay with
 |bad=>rw[en] at P4;exact P4.elim
 |err ex=>rw[en] at P4;exact P4.elim
 |ok r=>
  rw[en] at P4
  have P4:PZ Er (Fd D) (hid H4 OO) (chk (as.length<sizeLine) (g (as++[r.1]) r.2)):=P4
  have hp:=XF hl
  have wk:W (Cy::OO.set l []) H4:=w4.of hp
  have hll:l<OO.length:=(List.getElem?_eq_some_iff.mp hl).1
  have m0:Xr (hid H4 OO) (hid H4 [Cy]):=by
   rw[←Xx hp]
   exact Zo (Xr.refl _) λb hb=>by
    rw[XD]
    refine List.mem_append_left _ ?_
    simpa[fl] using hb
  have n2:=Xh (OO:=OO) s2
  have n3:=Xh (OO:=OO) s3
  have n4:=Xh (OO:=OO) s4
  have wo:W (OO.set l []) (hid H4 [Cy]):=⟨λcc hc=>YM (wk.tail.tr cc hc) (λz=>by
    have nd:=wk.nd
    rw[XD] at nd
    exact(List.nodup_append.mp nd).2.2 cc.1 (by simpa[fl] using z) cc.1 (Q4 hc) rfl),wk.tail.nd,wk.tail.mu⟩
  refine⟨x1,x2,x3,x4,vy,a,b,c,d,ay,r,rfl,Cy,wk.sub (by simp),z1.mono (((n2.trans n3).trans n4).trans m0) y1,z2.mono ((n3.trans n4).trans m0) y2,z3.mono (n4.trans m0) y3,z4.mono m0 y4,mq.mono m0 (h2 _ q4),en,λy D' C' H' w' m' ho hq=>?_⟩
  obtain⟨w5,n5,i5⟩:=Ll wo w' m'
  have nn:Xr (hid H4 OO) (hid H' ((D'++C')::OO.set l [])):=by
   refine Xr.trans (λbb uu hb=>?_) n5
   obtain⟨b1,b2⟩:=XI hb
   refine YM (m0 _ _ hb) λz=>b2 ?_
   rw[←Qg hp,XD]
   exact List.mem_append_right _ z
  have ho':=zo.flat i5 ho
  have hq':=zq.flat i5 hq
  have pe:(D'::OO.set l C').flatten.Perm ((D'++C')::OO.set l []).flatten:=by
   have h1:=XF (OO:=OO.set l C') (k:=l) (C:=C') (by simp[hll])
   rw[List.set_set] at h1
   rw[List.flatten_cons,List.flatten_cons,List.append_assoc]
   exact(by simpa using h1.symm:(OO.set l C').flatten.Perm (C'++(OO.set l []).flatten)).append_left D'
  have w6:W (D'::OO.set l C') H':=w5.of pe
  have hh:hid H' (D'::OO.set l C')=hid H' ((D'++C')::OO.set l []):=Xx pe
  rw[←hh] at nn ho' hq'
  have s':S.p (hid H' (D'::OO.set l C')):=S.mono _ _ nn q4
  have P':=PZ.tr (fd.tr D) nn P4
  have hk':(OO.set l C')[k]?=some ((p,HO.lst xs)::Cs.flatten):=by rw[List.getElem?_set_ne hne];exact hk
  obtain⟨p',xs',Cs',e2',q2',c2⟩:=h _ s'
  rw[e] at e2';cases e2'
  have c3:(p,HO.lst xs)=(p,HO.lst xs')/\Cs.flatten=Cs'.flatten:=by
   injection c2 with h1 h2
   exact⟨h1,h2⟩
  obtain⟨c3,c4⟩:=c3
  cases c3
  have hH':H' p=some (.lst xs):=w6.tr (p, .lst xs) (by rw[List.flatten_cons];exact List.mem_append_right _ (List.mem_flatten.mpr ⟨_,List.mem_of_getElem? hk',List.mem_cons_self⟩))
  cases hlt:decide (as.length<sizeLine) with
  |false=>rw[chk,if_neg (by simpa using hlt)] at P';exact P'.elim
  |true=>
   have hlt':as.length<sizeLine:=by simpa using hlt
   rw[Xv hlt'] at P'
   have hcell:∀c∈(p,HO.lst (xs++[y]))::(Cs'++[D']).flatten,upd H' p (.lst (xs++[y])) c.1=some c.2:=λc hc=>by
    rcases List.mem_cons.mp hc with rfl |hc
    ·exact Yr
    ·have hp1:=XF hk'
     have w3:W [D'++(((p,HO.lst xs)::Cs.flatten)++((OO.set l C').set k []).flatten)] H':=w6.of (by
      simp only[List.flatten_cons,List.flatten_nil,List.append_nil]
      exact(by simpa using hp1:(((p,HO.lst xs)::Cs.flatten)++((OO.set l C').set k []).flatten).Perm (OO.set l C').flatten).append_left D')
     have hin:c∈D'++(((p,HO.lst xs)::Cs.flatten)++((OO.set l C').set k []).flatten):=by
      rw[YD,List.mem_append] at hc
      rcases hc with hc |hc
      ·rw[←c4] at hc;simp[hc]
      ·simp[hc]
     have hne:c.1≠p:=λee=>by
      have nd3:=w3.nd
      rw[YD,List.mem_append, ←c4] at hc
      simp only[fl,List.flatten_cons,List.flatten_nil,List.append_nil,List.map_append,List.cons_append,List.map_cons] at nd3
      rw[List.nodup_append] at nd3
      obtain⟨_,n2,n3⟩:=nd3
      rcases hc with hc |hc
      ·exact(List.nodup_cons.mp n2).1 (List.mem_append_left _ (List.mem_map.mpr ⟨c,hc,ee⟩))
      ·exact n3 c.1 (List.mem_map.mpr ⟨c,hc,rfl⟩) p List.mem_cons_self ee
     rw[Xs hne]
     exact w3.tr c (by simpa using hin)
   obtain⟨w7,h7⟩:=Mp (C':=(p, .lst (xs++[y]))::(Cs'++[D']).flatten) w6 hk' List.mem_cons_self (by simp[YD,c4]) hcell (λc hc=>by
    rcases List.mem_cons.mp hc with rfl |hc
    ·rfl
    ·rw[YD,List.mem_append, ←c4] at hc
     rcases hc with hc |hc
     ·exact w6.mu c (by rw[List.flatten_cons];exact List.mem_append_right _ (List.mem_flatten.mpr ⟨_,List.mem_of_getElem? hk',List.mem_cons_of_mem _ hc⟩))
     ·exact w6.mu c (by rw[List.flatten_cons];exact List.mem_append_left _ hc))
   refine⟨p,xs,y,e,rfl,hH',by rw[(P3.len qq).1];exact hlt',?_⟩
   refine hr _ _ C' _ _ D w7 ?_ (by rw[h7];exact P')
   rw[h7]
   exact⟨⟨s',hq'⟩,⟨p,xs++[y],Cs'++[D'],e,q2'.snoc ho',rfl⟩⟩
end
end L2
namespace My
open PySem L2
noncomputable def Vy (a_0:((List (List Int))×(List (Int×Int))))(a_1:Int):Rs (Int×Int):=(Rs.bind (Rs.bind (Rs.bind (Rs.ok a_0) λx1=>(Rs.ok x1.1)) λx2=>(Rs.ok (Je x2))) λx20=>(Rs.bind (forC x20 () (λg5 a7=>(Rs.bind (Rs.bind (Rs.ok a_1) λx9=>(Rs.bind (Rs.ok a7.2) λx10=>(Rs.ok (decide (x9∈x10))))) λx11=>(if x11=true then(Rs.bind (Rs.bind (Rs.ok a7.1) λx14=>(Rs.bind (Rs.bind (Rs.ok a7.2) λx12=>(Rs.bind (Rs.ok a_1) λx13=>(Ea x12 x13))) λx15=>(Rs.ok (x14,x15)))) λx17=>(Rs.ok (Ctl.ret x17))) else(Rs.bind (Rs.ok ()) λx16=>(Rs.ok (Ctl.nx x16))))))) (Jg λg18=>Rs.bad)))
noncomputable def XC (a_0:(List Int)):Rs Int:=(Rs.bind (Rs.bind (Rs.ok a_0) λx6=>(E9 x6 (λa4=>(Rs.bind (Rs.ok a4) λx7=>(Rs.bind (Rs.ok (0:Int)) λx8=>(Rs.ok (decide (x7<x8)))))) (λa4=>(Rs.ok a4)))) λa1=>(Rs.bind (Rs.bind (Rs.ok a1) λx10=>(Rs.ok (x10.length:Int))) λx11=>(Rs.bind (Rs.ok (1:Int)) λx12=>(Rs.ok (max x11 x12)))))
noncomputable def Yi (a_0:(List Int))(a_1:Int):Rs (List Int):=(Rs.bind (Rs.bind (Rs.ok a_0) λx4=>(noE (XC x4))) λa1=>(Rs.bind (Rs.ok (0:Int)) λa5=>(Rs.bind (Rs.bind (Rs.bind (Rs.ok a_1) λx11=>(Rs.bind (Rs.ok []) λx12=>(Rs.ok (x11::x12)))) λx10=>(chk (x10.length<=sizeLine) (Rs.ok x10))) λa7=>(Rs.bind (Rs.bind (Rs.ok a_0) λx15=>(Rs.bind (Rs.ok none) λx16=>(Rs.bind (Rs.bind (Rs.bind (Rs.ok (1:Int)) λx13=>(Rs.ok (-x13))) λx14=>(Rs.ok (some x14))) λx17=>(Rs.ok (Ue x15 x16 x17))))) λx43=>(Rs.bind (forN x43 (a5,a7) (λg20 a22=>(Rs.bind (Rs.bind (Rs.bind (Rs.ok a22) λx24=>(Rs.bind (Rs.ok (0:Int)) λx25=>(Rs.ok (decide (x24<x25))))) λx26=>(if x26=true then(Rs.bind (Rs.ok (1:Int)) λx29=>((λ(a31:Int)=>(Rs.ok (a31))) (g20.1+x29))) else(Rs.ok (g20.1)))) λg33=>(Rs.bind (Rs.bind (Rs.ok a_1) λx36=>(Rs.bind (Rs.bind (Rs.ok g33) λx34=>(Rs.bind (Rs.ok a1) λx35=>(Zy x34 x35))) λx37=>(Rs.ok (x36+x37)))) λa38=>(chk (g20.2.length<sizeLine) ((λa40=>(Rs.ok (g33,a40))) (g20.2++[a38]))))))) λg41=>(Rs.ok g41.2))))))
noncomputable def VO (a_0:((List (List Int))×(List (Int×Int)))):Rs (List (List Int)):=(Rs.bind (Rs.ok []) λa1=>(Rs.bind (Rs.ok (0:Int)) λa4=>(Rs.bind (Rs.bind (Rs.ok a_0) λx6=>(Rs.ok x6.1)) λx26=>(Rs.bind (forN x26 (a4,a1) (λg9 a11=>(Rs.bind (Rs.bind (Rs.ok a11) λx14=>(Rs.bind (Rs.ok g9.1) λx15=>(noE (Yi x14 x15)))) λa16=>(chk (g9.2.length<sizeLine) ((λa18=>(Rs.bind (Rs.bind (Rs.ok a11) λx20=>(noE (XC x20))) λx21=>((λ(a23:Int)=>(Rs.ok (a23,a18))) (g9.1+x21)))) (g9.2++[a16])))))) λg24=>(Rs.ok g24.2)))))
noncomputable def Ys (a_0:((List (List Int))×(List (Int×Int)))):Rs Int:=(Rs.bind (Rs.bind (Rs.bind (Rs.ok a_0) λx2=>(Rs.ok x2.1)) λx6=>(UW x6 (λa4=>(Rs.bind (Rs.ok a4) λx8=>(noE (XC x8)))))) λx9=>(Rs.ok (x9.sum)))
noncomputable def Zn (a_0:((List (List Int))×(List (Int×Int)))):Rs (List (Int×Int×Int×Int×Int)):=(Rs.bind (Rs.bind (Rs.ok a_0) λx4=>(noE (VO x4))) λa1=>(Rs.bind (Rs.ok []) λa5=>(Rs.bind (Rs.bind (Rs.ok a_0) λx8=>(Rs.ok x8.2)) λx64=>(Rs.bind (forN x64 (a5) (λg11 a13=>(Rs.bind (Rs.bind (Rs.ok a_0) λx18=>(Rs.bind (Rs.ok a13.1) λx19=>(noE (Vy x18 x19)))) λa15=>(Rs.bind (Rs.bind (Rs.ok a_0) λx24=>(Rs.bind (Rs.bind (Rs.ok a13.1) λx23=>(Rs.ok (-x23))) λx25=>(noE (Vy x24 x25)))) λa20=>(Rs.bind (Rs.bind (Rs.bind (Rs.ok a1) λx29=>(Rs.bind (Rs.bind (Rs.ok a15) λx28=>(Rs.ok x28.1)) λx30=>(atR x29 x30))) λx32=>(Rs.bind (Rs.bind (Rs.ok a15) λx31=>(Rs.ok x31.2)) λx33=>(atR x32 x33))) λa26=>(Rs.bind (Rs.bind (Rs.ok a1) λx37=>(Rs.bind (Rs.bind (Rs.ok a20) λx36=>(Rs.ok x36.1)) λx38=>(atR x37 x38))) λa34=>(Rs.bind (Rs.bind (Rs.ok a34) λx42=>(Rs.bind (Rs.bind (Rs.ok a20) λx41=>(Rs.ok x41.2)) λx43=>(atR x42 x43))) λa39=>(Rs.bind (Rs.bind (Rs.ok a34) λx52=>(Rs.bind (Rs.bind (Rs.bind (Rs.bind (Rs.ok a20) λx46=>(Rs.ok x46.2)) λx47=>(Rs.bind (Rs.ok (1:Int)) λx48=>(Rs.ok (x47+x48)))) λx50=>(Rs.bind (Rs.bind (Rs.ok a34) λx49=>(Rs.ok (x49.length:Int))) λx51=>(Zy x50 x51))) λx53=>(atR x52 x53))) λa44=>(Rs.bind (Rs.bind (Rs.ok a13.1) λx54=>(Rs.bind (Rs.ok a13.2) λx55=>(Rs.bind (Rs.ok a26) λx56=>(Rs.bind (Rs.ok a39) λx57=>(Rs.bind (Rs.ok a44) λx58=>(Rs.ok (x54,x55,x56,x57,x58))))))) λa59=>(chk (g11.length<sizeLine) ((λa61=>(Rs.ok (a61))) (g11++[a59])))))))))))) λg62=>(Rs.ok g62)))))
noncomputable def VY (a_0:((List (List Int))×(List (Int×Int)))):Rs (List (Int×Int×Int)):=(Rs.bind (Rs.ok []) λa1=>(Rs.bind (Rs.bind (Rs.ok a_0) λx5=>(noE (Zn x5))) λx26=>(Rs.bind (forN x26 (a1) (λg8 a10=>(Rs.bind (Rs.bind (Rs.bind (Rs.ok a10.2.1) λx12=>(Rs.bind (Rs.ok (1:Int)) λx13=>(Rs.ok (decide (x12=x13))))) λx20=>(if x20=true then(Rs.bind (Rs.ok a10.2.2.2.1) λx14=>(Rs.bind (Rs.ok a10.2.2.1) λx15=>(Rs.bind (Rs.ok a10.2.2.2.2) λx16=>(Rs.ok (x14,x15,x16))))) else(Rs.bind (Rs.ok a10.2.2.2.2) λx17=>(Rs.bind (Rs.ok a10.2.2.1) λx18=>(Rs.bind (Rs.ok a10.2.2.2.1) λx19=>(Rs.ok (x17,x18,x19))))))) λa21=>(chk (g8.length<sizeLine) ((λa23=>(Rs.ok (a23))) (g8++[a21])))))) λg24=>(Rs.ok g24))))
noncomputable def Zf (a_0:Int):Rs Bool:=(Rs.bind (orR (Rs.bind (Rs.ok a_0) λx1=>(Rs.bind (Rs.ok (2:Int)) λx2=>(Rs.ok (decide (x1<x2))))) (Rs.bind (Rs.ok a_0) λx3=>(Rs.bind (Rs.ok (100000:Int)) λx4=>(Rs.ok (decide (x4<x3)))))) λx5=>(if x5=true then(Rs.ok false) else(Rs.bind (Rs.ok (2:Int)) λa6=>(Rs.bind (JA (a_0.natAbs+2) (a6) (λg10=>(Rs.bind (Rs.bind (Rs.ok g10) λx12=>(Rs.bind (Rs.ok g10) λx13=>(QE x12 x13))) λx14=>(Rs.bind (Rs.ok a_0) λx15=>(Rs.ok (decide (x14<=x15)))))) (λg10=>(Rs.bind (Rs.bind (Rs.bind (Rs.ok a_0) λx16=>(Rs.bind (Rs.ok g10) λx17=>(Zy x16 x17))) λx18=>(Rs.bind (Rs.ok (0:Int)) λx19=>(Rs.ok (decide (x18=x19))))) λx20=>(if x20=true then(Rs.bind (Rs.ok false) λx25=>(Rs.ok (Ctl.ret x25))) else(Rs.bind (Rs.ok (1:Int)) λx21=>((λ(a23:Int)=>(Rs.bind (Rs.ok (a23)) λx24=>(Rs.ok (Ctl.nx x24)))) (g10+x21))))))) (Jg λg26=>(Rs.ok true))))))
noncomputable def Yj (a_0:Int)(a_1:Int):Rs Unit:=(Rs.bind (Rs.bind (Rs.bind (Rs.ok a_0) λx6=>(noE (Zf x6))) λx7=>(Rs.ok (!x7))) λx8=>(if x8=true then Rs.bad else(Rs.bind (Rs.bind (Rs.bind (Rs.ok a_1) λx9=>(Rs.bind (Rs.ok a_0) λx10=>(Zy x9 x10))) λx11=>(Rs.bind (Rs.ok (0:Int)) λx12=>(Rs.ok (decide (x11=x12))))) λx13=>(if x13=true then Rs.bad else(Rs.ok ())))))
noncomputable def Y0 (a_0:((List (List Int))×(List (Int×Int))))(a_1:Int)(a_2:Int):Rs (List (List Int)):=(Rs.bind (Rs.bind (Rs.ok a_1) λx2=>(Rs.bind (Rs.ok a_2) λx3=>(noE (Yj x2 x3)))) λx4=>(Rs.bind (Rs.bind (Rs.ok a_0) λx8=>(noE (Ys x8))) λa5=>(Rs.bind (Rs.ok []) λa9=>(Rs.bind (Rs.bind (Rs.ok a_0) λx13=>(noE (VY x13))) λx56=>(Rs.bind (forN x56 (a9) (λg16 a18=>(Rs.bind (Rs.bind (Rs.bind (Rs.bind (Rs.ok (0:Int)) λx26=>(Rs.bind (Rs.ok []) λx27=>(Rs.ok (x26::x27)))) λx25=>(chk (x25.length<=sizeLine) (Rs.ok x25))) λx23=>(Rs.bind (Rs.ok a5) λx24=>(CC x23 x24))) λa20=>(Rs.bind (Rs.ok a18.1) λx30=>(Rs.bind (atR a20 x30) λx31=>(Rs.bind (Rs.ok a_2) λx32=>(Rs.bind (Vd a20 x30 (x31+x32)) λa28=>(Rs.bind (Rs.ok a18.2.1) λx37=>(Rs.bind (atR a28 x37) λx38=>(Rs.bind (Rs.bind (Rs.ok (1:Int)) λx33=>(Rs.bind (Rs.ok a_2) λx34=>(Rs.ok (x33-x34)))) λx39=>(Rs.bind (Vd a28 x37 (x38+x39)) λa35=>(Rs.bind (Rs.ok a18.2.2) λx42=>(Rs.bind (atR a35 x42) λx43=>(Rs.bind (Rs.ok (1:Int)) λx44=>(Rs.bind (Vd a35 x42 (x43-x44)) λa40=>(Rs.bind (Rs.bind (Rs.ok a40) λx48=>(UW x48 (λa46=>(Rs.bind (Rs.ok a46) λx49=>(Rs.bind (Rs.ok a_1) λx50=>(Zy x49 x50)))))) λa51=>(chk (g16.length<sizeLine) ((λa53=>(Rs.ok (a53))) (g16++[a51]))))))))))))))))))) λg54=>(Rs.ok g54))))))
noncomputable def Jj (a_0:(List Int))(a_1:Int)(a_2:Int):Rs (List Int):=(Rs.bind (Rs.ok a_0) λx4=>(UW x4 (λa2=>(Rs.bind (Rs.bind (Rs.ok a_1) λx5=>(Rs.bind (Rs.ok a2) λx6=>(QE x5 x6))) λx7=>(Rs.bind (Rs.ok a_2) λx8=>(Zy x7 x8))))))
noncomputable def Yn (a_0:Int)(a_1:Int):Rs Int:=(Rs.bind (Rs.ok (1:Int)) λa1=>(Rs.bind (Rs.ok a_0) λa3=>(Rs.bind (Rs.bind (Rs.ok a_1) λx7=>(Rs.bind (Rs.ok (2:Int)) λx8=>(Rs.ok (x7-x8)))) λa5=>(Rs.bind (ZV (100) (a3,a5,a1) (λg11=>(Rs.bind (Rs.ok g11.2.1) λx13=>(Rs.bind (Rs.ok (0:Int)) λx14=>(Rs.ok (decide (x14<x13)))))) (λg11=>(Rs.bind (Rs.bind (Rs.bind (Rs.bind (Rs.ok g11.2.1) λx15=>(Rs.bind (Rs.ok (2:Int)) λx16=>(Zy x15 x16))) λx17=>(Rs.bind (Rs.ok (1:Int)) λx18=>(Rs.ok (decide (x17=x18))))) λx19=>(if x19=true then(Rs.bind (Rs.bind (Rs.bind (Rs.ok g11.2.2) λx24=>(Rs.bind (Rs.ok g11.1) λx25=>(QE x24 x25))) λx26=>(Rs.bind (Rs.ok a_1) λx27=>(Zy x26 x27))) λa22=>(Rs.ok (a22))) else(Rs.ok (g11.2.2)))) λg29=>(Rs.bind (Rs.bind (Rs.bind (Rs.ok g11.1) λx32=>(Rs.bind (Rs.ok g11.1) λx33=>(QE x32 x33))) λx34=>(Rs.bind (Rs.ok a_1) λx35=>(Zy x34 x35))) λa30=>(Rs.bind (Rs.ok (2:Int)) λx36=>(Rs.bind (Ly g11.2.1 x36) λa38=>(Rs.ok (a30,a38,g29)))))))) λg39=>(Rs.ok g39.2.2)))))
noncomputable def Y7 (a_0:(List Int))(a_1:(List Int))(a_2:Int)(a_3:Int):Rs (List Int):=(Rs.bind (Rs.bind (Rs.ok a_0) λx1=>(Rs.bind (Rs.ok a_1) λx2=>(Rs.ok (x1.zip x2)))) λx6=>(UW x6 (λa4=>(Rs.bind (Rs.bind (Rs.ok a4.1) λx11=>(Rs.bind (Rs.bind (Rs.bind (Rs.ok a_0) λx7=>(Rs.bind (Rs.ok a_2) λx8=>(atR x7 x8))) λx9=>(Rs.bind (Rs.ok a4.2) λx10=>(QE x9 x10))) λx12=>(Rs.ok (x11-x12)))) λx13=>(Rs.bind (Rs.ok a_3) λx14=>(Zy x13 x14))))))
noncomputable def Ze (a_0:(List (List Int)))(a_1:Int)(a_2:Int):Rs (List (Int×(List Int))):=(Rs.bind (Rs.ok []) λa1=>(Rs.bind (Rs.ok a_0) λa4=>(Rs.bind (Rs.bind (Rs.ok a_1) λx6=>(CS 0 x6)) λx81=>(Rs.bind (forN x81 (a4,a1) (λg9 a11=>(Rs.bind (Rs.bind (Rs.ok g9.1) λx18=>(E9 x18 (λa16=>(Rs.bind (Rs.bind (Rs.ok a16) λx19=>(Rs.bind (Rs.ok a11) λx20=>(atR x19 x20))) λx21=>(Rs.bind (Rs.ok (0:Int)) λx22=>(Rs.ok (!(decide (x21=x22))))))) (λa16=>(Rs.ok a16)))) λa13=>(Rs.bind (Rs.bind (Rs.bind (Rs.bind (Rs.ok a13) λx23=>(Rs.ok (x23.length:Int))) λx24=>(Rs.bind (Rs.ok (0:Int)) λx25=>(Rs.ok (decide (x25<x24))))) λx26=>(if x26=true then(Rs.bind (Rs.bind (Rs.bind (Rs.ok a13) λx33=>(Rs.bind (Rs.ok (0:Int)) λx34=>(atR x33 x34))) λx42=>(Rs.bind (Rs.bind (Rs.bind (Rs.bind (Rs.ok a13) λx36=>(Rs.bind (Rs.ok (0:Int)) λx37=>(atR x36 x37))) λx38=>(Rs.bind (Rs.ok a11) λx39=>(atR x38 x39))) λx40=>(Rs.bind (Rs.ok a_2) λx41=>(noE (Yn x40 x41)))) λx43=>(Rs.bind (Rs.ok a_2) λx44=>(noE (Jj x42 x43 x44))))) λa29=>(Rs.bind (Rs.bind (Rs.ok g9.1) λx50=>(UW x50 (λa48=>(Rs.bind (Rs.ok a48) λx52=>(Rs.bind (Rs.ok a29) λx53=>(Rs.bind (Rs.ok a11) λx54=>(Rs.bind (Rs.ok a_2) λx55=>(noE (Y7 x52 x53 x54 x55))))))))) λa45=>(Rs.bind (Rs.bind (Rs.bind (Rs.ok g9.2) λx64=>(UW x64 (λa62=>(Rs.bind (Rs.ok a62.1) λx70=>(Rs.bind (Rs.bind (Rs.ok a62.2) λx66=>(Rs.bind (Rs.ok a29) λx67=>(Rs.bind (Rs.ok a11) λx68=>(Rs.bind (Rs.ok a_2) λx69=>(noE (Y7 x66 x67 x68 x69)))))) λx71=>(Rs.ok (x70,x71))))))) λx59=>(Rs.bind (Rs.bind (Rs.bind (Rs.bind (Rs.ok a11) λx73=>(Rs.bind (Rs.ok a29) λx74=>(Rs.ok (x73,x74)))) λx75=>(Rs.bind (Rs.ok []) λx76=>(Rs.ok (x75::x76)))) λx72=>(chk (x72.length<=sizeLine) (Rs.ok x72))) λx60=>(VG x59 x60))) λa56=>(Rs.ok (a45,a56))))) else(Rs.ok (g9.1,g9.2)))) λg78=>(Rs.ok (g78.1,g78.2)))))) λg79=>(Rs.ok g79.2)))))
noncomputable def JD (a_0:Int)(a_1:Int):Rs (List Int):=(Rs.bind (Rs.bind (Rs.bind (Rs.bind (Rs.ok (0:Int)) λx7=>(Rs.bind (Rs.ok []) λx8=>(Rs.ok (x7::x8)))) λx6=>(chk (x6.length<=sizeLine) (Rs.ok x6))) λx4=>(Rs.bind (Rs.ok a_0) λx5=>(CC x4 x5))) λa1=>(Rs.bind (Rs.ok (1:Int)) λx9=>(Rs.bind (Rs.ok a_1) λx10=>(Rs.bind (Vd a1 x10 x9) λa11=>(Rs.ok a11)))))
noncomputable def Ym (a_0:(List (List Int))):Rs (List (List Int)):=(Rs.bind (Rs.bind (Rs.ok a_0) λx1=>(Rs.ok (Je x1))) λx5=>(UW x5 (λa3=>(Rs.bind (Rs.ok a3.2) λx6=>(Rs.bind (Rs.bind (Rs.bind (Rs.ok a_0) λx9=>(Rs.ok (x9.length:Int))) λx10=>(Rs.bind (Rs.ok a3.1) λx11=>(noE (JD x10 x11)))) λx7=>(VG x6 x7))))))
noncomputable def Yk (a_0:Int)(a_1:(List (Int×(List Int))))(a_2:Int)(a_3:Int):Rs (List Int):=(Rs.bind (Rs.bind (Rs.ok a_2) λx5=>(Rs.bind (Rs.ok a_0) λx6=>(noE (JD x5 x6)))) λa1=>(Rs.bind (Rs.ok a_1) λx24=>(Rs.bind (forN x24 (a1) (λg9 a11=>(Rs.bind (Rs.bind (Rs.bind (Rs.bind (Rs.ok a11.2) λx13=>(Rs.bind (Rs.ok a_0) λx14=>(atR x13 x14))) λx15=>(Rs.ok (-x15))) λx16=>(Rs.bind (Rs.ok a_3) λx17=>(Zy x16 x17))) λx18=>(Rs.bind (Rs.ok a11.1) λx19=>(Rs.bind (Vd g9 x19 x18) λa20=>(Rs.ok (a20))))))) λg22=>(Rs.ok g22))))
noncomputable def Qt (a_0:((List (List Int))×(List (Int×Int))))(a_1:Int)(a_2:Int):Rs ((List Int)×(List (List Int))×(List (Int×(List Int)))):=(Rs.bind (Rs.bind (Rs.ok a_0) λx4=>(noE (Ys x4))) λa1=>(Rs.bind (Rs.bind (Rs.bind (Rs.bind (Rs.ok a_0) λx10=>(Rs.bind (Rs.ok a_1) λx11=>(Rs.bind (Rs.ok a_2) λx12=>(noE (Y0 x10 x11 x12))))) λx13=>(noE (Ym x13))) λx14=>(Rs.bind (Rs.ok a1) λx15=>(Rs.bind (Rs.ok a_1) λx16=>(noE (Ze x14 x15 x16))))) λa5=>(Rs.bind (Rs.bind (Rs.ok a5) λx20=>(Rs.ok (G8 [] x20))) λa17=>(Rs.bind (Rs.bind (Rs.bind (Rs.ok a1) λx24=>(CS 0 x24)) λx28=>(E9 x28 (λa26=>(Rs.bind (Rs.ok a26) λx29=>(Rs.bind (Rs.ok a17) λx30=>(Rs.ok (!(JG x30 x29).isSome))))) (λa26=>(Rs.ok a26)))) λa21=>(Rs.bind (Rs.bind (Rs.ok a21) λx37=>(UW x37 (λa35=>(Rs.bind (Rs.ok a35) λx40=>(Rs.bind (Rs.ok a17) λx41=>(Rs.bind (Rs.ok a1) λx42=>(Rs.bind (Rs.ok a_1) λx43=>(noE (Yk x40 x41 x42 x43))))))))) λa31=>(Rs.bind (Rs.ok a21) λx54=>(Rs.bind (Rs.ok a31) λx55=>(Rs.bind (Rs.bind (Rs.ok a5) λx47=>(UW x47 (λa45=>(Rs.bind (Rs.ok a45.1) λx52=>(Rs.bind (Rs.bind (Rs.ok a45.2) λx49=>(Rs.bind (Rs.bind (Rs.ok a1) λx48=>(Rs.ok (some x48))) λx50=>(Rs.bind (Rs.ok none) λx51=>(Rs.ok (Ue x49 x50 x51))))) λx53=>(Rs.ok (x52,x53))))))) λx56=>(Rs.ok (x54,x55,x56))))))))))
noncomputable def XX (a_0:((List (List Int))×(List (Int×Int))))(a_1:Int)(a_2:Int):Rs Int:=(Rs.bind (Rs.ok (1:Int)) λa1=>(Rs.bind (Rs.bind (Rs.bind (Rs.ok a_0) λx4=>(Rs.bind (Rs.ok a_1) λx5=>(Rs.bind (Rs.ok a_2) λx6=>(noE (Qt x4 x5 x6))))) λx7=>(Rs.ok x7.1)) λx19=>(Rs.bind (forN x19 (a1) (λg10 a12=>(Rs.bind (Rs.ok a_1) λx14=>(Rs.bind (QE g10 x14) λa16=>(Rs.ok (a16)))))) λg17=>(Rs.ok g17))))
noncomputable def Vv (a_0:(List Int))(a_1:Int):Rs Int:=(Rs.bind (Rs.bind (Rs.ok a_1) λx2=>(Rs.bind (Rs.bind (Rs.ok a_0) λx1=>(Rs.ok (x1.length:Int))) λx3=>(Rs.ok (decide (x2<x3))))) λx4=>(if x4=true then(Rs.bind (Rs.ok a_0) λx5=>(Rs.bind (Rs.ok a_1) λx6=>(atR x5 x6))) else(Rs.bind (Rs.ok (5:Int)) λa7=>(Rs.bind (Rs.bind (Rs.ok a_0) λx10=>(Rs.bind (Rs.ok none) λx11=>(Rs.bind (Rs.bind (Rs.ok (63:Int)) λx9=>(Rs.ok (some x9))) λx12=>(Rs.ok (Ue x10 x11 x12))))) λx39=>(Rs.bind (forN x39 (a7) (λg15 a17=>(Rs.bind (Rs.bind (Rs.bind (Rs.bind (Rs.bind (Rs.ok g15) λx21=>(Rs.bind (Rs.ok (48271:Int)) λx22=>(QE x21 x22))) λx25=>(Rs.bind (Rs.bind (Rs.ok a17) λx23=>(Rs.bind (Rs.ok (1000003:Int)) λx24=>(Zy x23 x24))) λx26=>(Rs.ok (x25+x26)))) λx27=>(Rs.bind (Rs.ok (1:Int)) λx28=>(Rs.ok (x27+x28)))) λx29=>(Rs.bind (Rs.ok (2147483647:Int)) λx30=>(Zy x29 x30))) λa19=>(Rs.ok (a19))))) λg31=>(Rs.bind (Rs.bind (Rs.ok g31) λx35=>(Rs.bind (Rs.bind (Rs.ok (7919:Int)) λx33=>(Rs.bind (Rs.ok a_1) λx34=>(QE x33 x34))) λx36=>(Rs.ok (x35+x36)))) λx37=>(Rs.bind (Rs.ok (1000003:Int)) λx38=>(Zy x37 x38))))))))
noncomputable def Gb (a_0:Int)(a_1:Int):Rs Int:=(Rs.bind (Rs.bind (Rs.bind (Rs.bind (Rs.bind (Rs.bind (Rs.ok a_0) λx3=>(Rs.bind (Rs.ok (2147483629:Int)) λx4=>(Zy x3 x4))) λx7=>(Rs.bind (Rs.bind (Rs.ok (1013:Int)) λx5=>(Rs.bind (Rs.ok a_1) λx6=>(QE x5 x6))) λx8=>(Rs.ok (x7+x8)))) λx9=>(Rs.bind (Rs.ok (7919:Int)) λx10=>(Rs.ok (x9+x10)))) λx11=>(Rs.bind (Rs.ok (3:Int)) λx12=>(HN x11 x12))) λx13=>(Rs.bind (Rs.ok (2147483647:Int)) λx14=>(Zy x13 x14))) λa1=>(Rs.bind (Rs.bind (Rs.bind (Rs.bind (Rs.bind (Rs.ok a1) λx17=>(Rs.bind (Rs.ok (40699:Int)) λx18=>(QE x17 x18))) λx23=>(Rs.bind (Rs.bind (Rs.bind (Rs.ok (3793:Int)) λx19=>(Rs.bind (Rs.ok a_1) λx20=>(QE x19 x20))) λx21=>(Rs.bind (Rs.ok a_1) λx22=>(QE x21 x22))) λx24=>(Rs.ok (x23+x24)))) λx25=>(Rs.bind (Rs.ok (11:Int)) λx26=>(Rs.ok (x25+x26)))) λx27=>(Rs.bind (Rs.ok (2147483399:Int)) λx28=>(Zy x27 x28))) λa15=>(Rs.bind (Rs.ok a15) λx29=>(Rs.bind (Rs.ok (101:Int)) λx30=>(CT x29 x30)))))
noncomputable def K1 (a_0:(List Int))(a_1:Int)(a_2:(List Int)):Rs (List Int):=(Rs.bind (Rs.bind (Rs.ok a_0) λx4=>(Rs.bind (Rs.ok a_1) λx5=>(noE (Vv x4 x5)))) λa1=>(Rs.bind (Rs.ok a1) λa6=>(Rs.bind (Rs.ok []) λa8=>(Rs.bind (Rs.bind (Rs.bind (Rs.ok a_2) λx11=>(Rs.ok (x11.length:Int))) λx12=>(CS 0 x12)) λx81=>(Rs.bind (forN x81 (a8,a6) (λg15 a17=>(Rs.bind (Rs.bind (Rs.bind (Rs.ok a1) λx21=>(Rs.bind (Rs.bind (Rs.ok (10:Int)) λx19=>(Rs.bind (Rs.ok (18:Int)) λx20=>(HN x19 x20))) λx22=>(Rs.ok (decide (x21<x22))))) λx23=>(if x23=true then(Rs.bind (Rs.bind (Rs.bind (Rs.ok a1) λx27=>(Rs.bind (Rs.ok a17) λx28=>(noE (Gb x27 x28)))) λx31=>(Rs.bind (Rs.bind (Rs.ok a_2) λx29=>(Rs.bind (Rs.ok a17) λx30=>(atR x29 x30))) λx32=>(Zy x31 x32))) λa33=>(chk (g15.1.length<sizeLine) ((λa35=>(Rs.ok (a35,g15.2))) (g15.1++[a33])))) else(Rs.bind (Rs.bind (Rs.bind (Rs.ok g15.2) λx36=>(Rs.bind (Rs.ok (0:Int)) λx37=>(Rs.ok (decide (x37<x36))))) λx38=>(if x38=true then(Rs.bind (Rs.bind (Rs.ok g15.2) λx43=>(Rs.bind (Rs.bind (Rs.ok a_2) λx41=>(Rs.bind (Rs.ok a17) λx42=>(atR x41 x42))) λx44=>(Zy x43 x44))) λa45=>(chk (g15.1.length<sizeLine) ((λa47=>(Rs.bind (Rs.bind (Rs.ok g15.2) λx52=>(Rs.bind (Rs.bind (Rs.ok a_2) λx50=>(Rs.bind (Rs.ok a17) λx51=>(atR x50 x51))) λx53=>(CT x52 x53))) λa48=>(Rs.ok (a48,a47)))) (g15.1++[a45])))) else(Rs.bind (Rs.bind (Rs.ok a_0) λx63=>(Rs.bind (Rs.bind (Rs.bind (Rs.bind (Rs.ok a_1) λx57=>(Rs.bind (Rs.ok (1:Int)) λx58=>(Rs.ok (x57+x58)))) λx59=>(Rs.bind (Rs.ok a17) λx60=>(Rs.ok (x59+x60)))) λx61=>(Rs.bind (Rs.ok (63:Int)) λx62=>(Zy x61 x62))) λx64=>(noE (Vv x63 x64)))) λa54=>(Rs.bind (Rs.bind (Rs.bind (Rs.ok a54) λx66=>(Rs.bind (Rs.ok a17) λx67=>(noE (Gb x66 x67)))) λx70=>(Rs.bind (Rs.bind (Rs.ok a_2) λx68=>(Rs.bind (Rs.ok a17) λx69=>(atR x68 x69))) λx71=>(Zy x70 x71))) λa72=>(chk (g15.1.length<sizeLine) ((λa74=>(Rs.ok (g15.2,a74))) (g15.1++[a72]))))))) λg76=>(Rs.ok (g76.2,g76.1))))) λg78=>(Rs.ok (g78.1,g78.2))))) λg79=>(Rs.ok g79.1))))))
noncomputable def ZR (a_0:Int):Rs Bool:=(E7 (Rs.bind (Rs.ok a_0) λx1=>(Rs.ok true)) (Rs.bind (Rs.bind (Rs.ok a_0) λx2=>(Rs.ok false)) λx3=>(Rs.ok (!x3))))
noncomputable def Jm (a_0:(List Int)):Rs (Int×Int):=(Rs.bind (Rs.bind (Rs.bind (Rs.ok (2:Int)) λx22=>(Rs.bind (Rs.bind (Rs.ok (3:Int)) λx20=>(Rs.bind (Rs.bind (Rs.ok (5:Int)) λx18=>(Rs.bind (Rs.bind (Rs.ok (7:Int)) λx16=>(Rs.bind (Rs.bind (Rs.ok (11:Int)) λx14=>(Rs.bind (Rs.bind (Rs.ok (13:Int)) λx12=>(Rs.bind (Rs.bind (Rs.ok (23:Int)) λx10=>(Rs.bind (Rs.bind (Rs.ok (97:Int)) λx8=>(Rs.bind (Rs.bind (Rs.ok (65537:Int)) λx6=>(Rs.bind (Rs.bind (Rs.ok (99991:Int)) λx4=>(Rs.bind (Rs.ok []) λx5=>(Rs.ok (x4::x5)))) λx7=>(Rs.ok (x6::x7)))) λx9=>(Rs.ok (x8::x9)))) λx11=>(Rs.ok (x10::x11)))) λx13=>(Rs.ok (x12::x13)))) λx15=>(Rs.ok (x14::x15)))) λx17=>(Rs.ok (x16::x17)))) λx19=>(Rs.ok (x18::x19)))) λx21=>(Rs.ok (x20::x21)))) λx23=>(Rs.ok (x22::x23)))) λx3=>(chk (x3.length<=sizeLine) (Rs.ok x3))) λa1=>(Rs.bind (Rs.bind (Rs.ok a1) λx28=>(Rs.bind (Rs.bind (Rs.ok a_0) λx26=>(Rs.bind (Rs.ok (0:Int)) λx27=>(atR x26 x27))) λx29=>(atR x28 x29))) λa24=>(Rs.bind (Rs.bind (Rs.ok (1:Int)) λx40=>(Rs.bind (Rs.bind (Rs.bind (Rs.ok a_0) λx32=>(Rs.bind (Rs.ok (1:Int)) λx33=>(atR x32 x33))) λx38=>(Rs.bind (Rs.bind (Rs.ok (1:Int)) λx36=>(Rs.bind (Rs.bind (Rs.ok a24) λx34=>(Rs.bind (Rs.ok (1:Int)) λx35=>(Rs.ok (x34-x35)))) λx37=>(Rs.ok (max x36 x37)))) λx39=>(Zy x38 x39))) λx41=>(Rs.ok (x40+x41)))) λa30=>(Rs.bind (Rs.ok a24) λx64=>(Rs.bind (Rs.bind (Rs.ok a30) λx62=>(Rs.bind (Rs.bind (Rs.ok a24) λx60=>(Rs.bind (Rs.bind (Rs.bind (Rs.bind (Rs.ok (0:Int)) λx54=>(Rs.bind (Rs.bind (Rs.ok (0:Int)) λx52=>(Rs.bind (Rs.bind (Rs.bind (Rs.ok (3:Int)) λx43=>(Rs.ok (-x43))) λx50=>(Rs.bind (Rs.bind (Rs.ok (1:Int)) λx48=>(Rs.bind (Rs.bind (Rs.bind (Rs.ok (10:Int)) λx44=>(Rs.bind (Rs.ok (50:Int)) λx45=>(HN x44 x45))) λx46=>(Rs.bind (Rs.ok []) λx47=>(Rs.ok (x46::x47)))) λx49=>(Rs.ok (x48::x49)))) λx51=>(Rs.ok (x50::x51)))) λx53=>(Rs.ok (x52::x53)))) λx55=>(Rs.ok (x54::x55)))) λx42=>(chk (x42.length<=sizeLine) (Rs.ok x42))) λx58=>(Rs.bind (Rs.bind (Rs.ok a_0) λx56=>(Rs.bind (Rs.ok (2:Int)) λx57=>(atR x56 x57))) λx59=>(atR x58 x59))) λx61=>(QE x60 x61))) λx63=>(Rs.ok (x62+x63)))) λx65=>(Rs.ok (x64,x65)))))))
noncomputable def V1 (a_0:(List (Int×Int)))(a_1:Int)(a_2:Int)(a_3:Int)(a_4:(List Bool)):Rs ((List Int)×(List Bool)):=(Rs.bind (Rs.ok []) λa1=>(Rs.bind (Rs.ok a_2) λa4=>(Rs.bind (ZV (a_1.natAbs+2) (a_4,a4,a1) (λg8=>(Rs.bind (Rs.bind (Rs.ok g8.1) λx10=>(Rs.bind (Rs.ok g8.2.1) λx11=>(atR x10 x11))) λx12=>(Rs.ok (!x12)))) (λg8=>(Rs.bind (Rs.ok true) λx13=>(Rs.bind (Rs.ok g8.2.1) λx14=>(Rs.bind (Vd g8.1 x14 x13) λa15=>(Rs.bind (Rs.bind (Rs.bind (Rs.ok a_0) λx17=>(Rs.ok (x17.length:Int))) λx18=>(CS 0 x18)) λx73=>(Rs.bind (forN x73 (g8.2.1,g8.2.2) (λg21 a23=>(Rs.bind (Rs.bind (Rs.ok a_0) λx25=>(Rs.bind (Rs.ok a23) λx26=>(atR x25 x26))) λa27=>(Rs.bind (Rs.bind (Rs.bind (Rs.ok g21.1) λx30=>(Rs.bind (Rs.ok a27.1) λx31=>(Rs.ok (decide (x30=x31))))) λx32=>(if x32=true then(Rs.bind (Rs.bind (Rs.bind (Rs.ok (1:Int)) λx37=>(Rs.bind (Rs.bind (Rs.ok a23) λx35=>(Rs.bind (Rs.ok a_3) λx36=>(QE x35 x36))) λx38=>(Rs.ok (x37+x38)))) λx39=>(Rs.bind (Rs.ok a27.2) λx40=>(QE x39 x40))) λa41=>(chk (g21.2.length<sizeLine) ((λa43=>(Rs.bind (Rs.bind (Rs.ok a27.1) λx46=>(Rs.bind (Rs.ok (1:Int)) λx47=>(Rs.ok (x46+x47)))) λa44=>(Rs.ok (a44,a43)))) (g21.2++[a41])))) else(Rs.bind (Rs.bind (Rs.bind (Rs.ok g21.1) λx50=>(Rs.bind (Rs.bind (Rs.ok a27.1) λx48=>(Rs.bind (Rs.ok (1:Int)) λx49=>(Rs.ok (x48+x49)))) λx51=>(Rs.ok (decide (x50=x51))))) λx52=>(if x52=true then(Rs.bind (Rs.bind (Rs.bind (Rs.bind (Rs.ok (1:Int)) λx57=>(Rs.bind (Rs.bind (Rs.ok a23) λx55=>(Rs.bind (Rs.ok a_3) λx56=>(QE x55 x56))) λx58=>(Rs.ok (x57+x58)))) λx59=>(Rs.ok (-x59))) λx60=>(Rs.bind (Rs.ok a27.2) λx61=>(QE x60 x61))) λa62=>(chk (g21.2.length<sizeLine) ((λa64=>(Rs.bind (Rs.ok a27.1) λa65=>(Rs.ok (a65,a64)))) (g21.2++[a62])))) else(Rs.ok (g21.1,g21.2)))) λg68=>(Rs.ok (g68.1,g68.2))))) λg70=>(Rs.ok (g70.1,g70.2)))))) λg71=>(Rs.ok (a15,g71.1,g71.2))))))))) λg74=>(Rs.bind (Rs.ok g74.2.2) λx76=>(Rs.ok (x76,g74.1))))))
noncomputable def ZE (a_0:(List (Int×Int)))(a_1:Int)(a_2:Int):Rs ((List (List Int))×(List (Int×Int))):=(Rs.bind (Rs.bind (Rs.bind (Rs.bind (Rs.ok false) λx7=>(Rs.bind (Rs.ok []) λx8=>(Rs.ok (x7::x8)))) λx6=>(chk (x6.length<=sizeLine) (Rs.ok x6))) λx4=>(Rs.bind (Rs.ok a_1) λx5=>(CC x4 x5))) λa1=>(Rs.bind (Rs.ok []) λa9=>(Rs.bind (Rs.bind (Rs.ok a_1) λx12=>(CS 0 x12)) λx55=>(Rs.bind (forN x55 (a9,a1) (λg15 a17=>(Rs.bind (Rs.bind (Rs.bind (Rs.bind (Rs.ok g15.2) λx19=>(Rs.bind (Rs.ok a17) λx20=>(atR x19 x20))) λx21=>(Rs.ok (!x21))) λx22=>(if x22=true then(Rs.bind (Rs.ok a_0) λx25=>(Rs.bind (Rs.ok a_1) λx26=>(Rs.bind (Rs.ok a17) λx27=>(Rs.bind (Rs.ok a_2) λx28=>(Rs.bind (noE (V1 x25 x26 x27 x28 g15.2)) λx33=>(chk (g15.1.length<sizeLine) ((λa29 a30=>(Rs.ok (a29,a30))) (g15.1++[x33.1]) x33.2))))))) else(Rs.ok (g15.1,g15.2)))) λg35=>(Rs.ok (g35.1,g35.2))))) λg36=>(Rs.bind (Rs.ok g36.1) λx53=>(Rs.bind (Rs.bind (Rs.bind (Rs.bind (Rs.ok a_0) λx38=>(Rs.ok (x38.length:Int))) λx39=>(CS 0 x39)) λx43=>(UW x43 (λa41=>(Rs.bind (Rs.bind (Rs.ok (1:Int)) λx46=>(Rs.bind (Rs.bind (Rs.ok a41) λx44=>(Rs.bind (Rs.ok a_2) λx45=>(QE x44 x45))) λx47=>(Rs.ok (x46+x47)))) λx51=>(Rs.bind (Rs.bind (Rs.bind (Rs.ok a_0) λx48=>(Rs.bind (Rs.ok a41) λx49=>(atR x48 x49))) λx50=>(Rs.ok x50.2)) λx52=>(Rs.ok (x51,x52))))))) λx54=>(Rs.ok (x53,x54))))))))
noncomputable def Qq (a_0:Int)(a_1:Int):Rs ((List (Int×Int))×(List (Int×Int))):=(Rs.bind (Rs.bind (Rs.bind (Rs.ok (2:Int)) λx5=>(Rs.bind (Rs.bind (Rs.ok a_1) λx3=>(Rs.bind (Rs.ok (2:Int)) λx4=>(Zy x3 x4))) λx6=>(QE x5 x6))) λx7=>(Rs.bind (Rs.ok (1:Int)) λx8=>(Rs.ok (x7-x8)))) λa1=>(Rs.bind (Rs.bind (Rs.bind (Rs.ok (2:Int)) λx15=>(Rs.bind (Rs.bind (Rs.bind (Rs.ok a_1) λx11=>(Rs.bind (Rs.ok (2:Int)) λx12=>(CT x11 x12))) λx13=>(Rs.bind (Rs.ok (2:Int)) λx14=>(Zy x13 x14))) λx16=>(QE x15 x16))) λx17=>(Rs.bind (Rs.ok (1:Int)) λx18=>(Rs.ok (x17-x18)))) λa9=>(Rs.bind (Rs.bind (Rs.bind (Rs.ok (2:Int)) λx25=>(Rs.bind (Rs.bind (Rs.bind (Rs.ok a_1) λx21=>(Rs.bind (Rs.ok (4:Int)) λx22=>(CT x21 x22))) λx23=>(Rs.bind (Rs.ok (2:Int)) λx24=>(Zy x23 x24))) λx26=>(QE x25 x26))) λx27=>(Rs.bind (Rs.ok (1:Int)) λx28=>(Rs.ok (x27-x28)))) λa19=>(Rs.bind (Rs.bind (Rs.bind (Rs.ok a1) λx29=>(Rs.bind (Rs.ok a19) λx30=>(Rs.ok (decide (x29=x30))))) λx31=>(if x31=true then(Rs.bind (Rs.ok a1) λa34=>(Rs.ok (a34))) else(Rs.ok (a9)))) λg37=>(Rs.bind (Rs.bind (Rs.bind (Rs.bind (Rs.ok a_0) λx42=>(Rs.bind (Rs.ok a1) λx43=>(Rs.ok (x42,x43)))) λx54=>(Rs.bind (Rs.bind (Rs.bind (Rs.bind (Rs.ok a_0) λx44=>(Rs.bind (Rs.ok (1:Int)) λx45=>(Rs.ok (x44+x45)))) λx46=>(Rs.bind (Rs.ok g37) λx47=>(Rs.ok (x46,x47)))) λx52=>(Rs.bind (Rs.bind (Rs.bind (Rs.ok a_0) λx48=>(Rs.bind (Rs.ok a19) λx49=>(Rs.ok (x48,x49)))) λx50=>(Rs.bind (Rs.ok []) λx51=>(Rs.ok (x50::x51)))) λx53=>(Rs.ok (x52::x53)))) λx55=>(Rs.ok (x54::x55)))) λx41=>(chk (x41.length<=sizeLine) (Rs.ok x41))) λa38=>(Rs.bind (Rs.ok a38) λx73=>(Rs.bind (Rs.bind (Rs.bind (Rs.bind (Rs.bind (Rs.ok a_0) λx57=>(Rs.bind (Rs.ok (1:Int)) λx58=>(Rs.ok (x57+x58)))) λx59=>(Rs.bind (Rs.ok a19) λx60=>(Rs.ok (x59,x60)))) λx71=>(Rs.bind (Rs.bind (Rs.bind (Rs.ok a_0) λx61=>(Rs.bind (Rs.ok g37) λx62=>(Rs.ok (x61,x62)))) λx69=>(Rs.bind (Rs.bind (Rs.bind (Rs.bind (Rs.ok a_0) λx63=>(Rs.bind (Rs.ok (1:Int)) λx64=>(Rs.ok (x63+x64)))) λx65=>(Rs.bind (Rs.ok a1) λx66=>(Rs.ok (x65,x66)))) λx67=>(Rs.bind (Rs.ok []) λx68=>(Rs.ok (x67::x68)))) λx70=>(Rs.ok (x69::x70)))) λx72=>(Rs.ok (x71::x72)))) λx56=>(chk (x56.length<=sizeLine) (Rs.ok x56))) λx74=>(Rs.ok (x73,x74)))))))))
noncomputable def Qr (a_0:(List (Int×Int)))(a_1:Int)(a_2:(List Int)):Rs ((List (Int×Int))×(List (Int×Int))×Int):=(Rs.bind (Rs.bind (Rs.bind (Rs.ok a_2) λx3=>(Rs.bind (Rs.ok (1:Int)) λx4=>(atR x3 x4))) λx8=>(Rs.bind (Rs.bind (Rs.bind (Rs.ok a_0) λx5=>(Rs.ok (x5.length:Int))) λx6=>(Rs.bind (Rs.ok (1:Int)) λx7=>(Rs.ok (x6+x7)))) λx9=>(Zy x8 x9))) λa1=>(Rs.bind (Rs.bind (Rs.bind (Rs.ok a_2) λx12=>(Rs.bind (Rs.ok (2:Int)) λx13=>(atR x12 x13))) λx16=>(Rs.bind (Rs.bind (Rs.ok a_1) λx14=>(Rs.bind (Rs.ok (1:Int)) λx15=>(Rs.ok (x14-x15)))) λx17=>(Zy x16 x17))) λa10=>(Rs.bind (Rs.bind (Rs.bind (Rs.ok (2:Int)) λx24=>(Rs.bind (Rs.bind (Rs.bind (Rs.ok a_2) λx20=>(Rs.bind (Rs.ok (3:Int)) λx21=>(atR x20 x21))) λx22=>(Rs.bind (Rs.ok (2:Int)) λx23=>(Zy x22 x23))) λx25=>(QE x24 x25))) λx26=>(Rs.bind (Rs.ok (1:Int)) λx27=>(Rs.ok (x26-x27)))) λa18=>(Rs.bind (Rs.bind (Rs.ok a_0) λx29=>(Rs.bind (Rs.ok none) λx30=>(Rs.bind (Rs.bind (Rs.ok a1) λx28=>(Rs.ok (some x28))) λx31=>(Rs.ok (Ue x29 x30 x31))))) λa36=>(Rs.bind (Rs.bind (Rs.ok a_0) λx33=>(Rs.bind (Rs.bind (Rs.ok a1) λx32=>(Rs.ok (some x32))) λx34=>(Rs.bind (Rs.ok none) λx35=>(Rs.ok (Ue x33 x34 x35))))) λa37=>(Rs.bind (Rs.bind (Rs.bind (Rs.ok a_2) λx40=>(Rs.bind (Rs.ok (0:Int)) λx41=>(atR x40 x41))) λx42=>(Rs.bind (Rs.ok (0:Int)) λx43=>(Rs.ok (decide (x42=x43))))) λx44=>(if x44=true then(Rs.bind (Rs.ok a_0) λx59=>(Rs.bind (Rs.bind (Rs.bind (Rs.ok a36) λx47=>(Rs.bind (Rs.bind (Rs.bind (Rs.bind (Rs.ok a10) λx50=>(Rs.bind (Rs.ok a18) λx51=>(Rs.ok (x50,x51)))) λx57=>(Rs.bind (Rs.bind (Rs.bind (Rs.ok a10) λx53=>(Rs.bind (Rs.bind (Rs.ok a18) λx52=>(Rs.ok (-x52))) λx54=>(Rs.ok (x53,x54)))) λx55=>(Rs.bind (Rs.ok []) λx56=>(Rs.ok (x55::x56)))) λx58=>(Rs.ok (x57::x58)))) λx49=>(chk (x49.length<=sizeLine) (Rs.ok x49))) λx48=>(VG x47 x48))) λx45=>(Rs.bind (Rs.ok a37) λx46=>(VG x45 x46))) λx60=>(Rs.bind (Rs.ok a_1) λx61=>(Rs.ok (x59,x60,x61))))) else(Rs.bind (Rs.bind (Rs.bind (Rs.ok a_2) λx62=>(Rs.bind (Rs.ok (0:Int)) λx63=>(atR x62 x63))) λx64=>(Rs.bind (Rs.ok (1:Int)) λx65=>(Rs.ok (decide (x64=x65))))) λx66=>(if x66=true then(Rs.bind (Rs.ok a_0) λx69=>(Rs.bind (Rs.bind (Rs.ok a37) λx67=>(Rs.bind (Rs.ok a36) λx68=>(VG x67 x68))) λx70=>(Rs.bind (Rs.ok a_1) λx71=>(Rs.ok (x69,x70,x71))))) else(Rs.bind (E7 (Rs.bind (Rs.bind (Rs.ok a_2) λx72=>(Rs.bind (Rs.ok (0:Int)) λx73=>(atR x72 x73))) λx74=>(Rs.bind (Rs.ok (2:Int)) λx75=>(Rs.ok (decide (x74=x75))))) (Rs.bind (Rs.ok a_1) λx76=>(Rs.bind (Rs.ok (2:Int)) λx77=>(Rs.ok (decide (x77<x76)))))) λx78=>(if x78=true then(Rs.bind (Rs.bind (Rs.bind (Rs.bind (Rs.ok a_2) λx80=>(Rs.bind (Rs.ok (2:Int)) λx81=>(atR x80 x81))) λx84=>(Rs.bind (Rs.bind (Rs.ok a_1) λx82=>(Rs.bind (Rs.ok (2:Int)) λx83=>(Rs.ok (x82-x83)))) λx85=>(Zy x84 x85))) λx88=>(Rs.bind (Rs.bind (Rs.ok a_2) λx86=>(Rs.bind (Rs.ok (3:Int)) λx87=>(atR x86 x87))) λx89=>(noE (Qq x88 x89)))) λa90=>(Rs.bind (Rs.bind (Rs.bind (Rs.ok a36) λx95=>(Rs.bind (Rs.ok a90.1) λx96=>(VG x95 x96))) λx93=>(Rs.bind (Rs.ok a37) λx94=>(VG x93 x94))) λx101=>(Rs.bind (Rs.bind (Rs.bind (Rs.ok a36) λx99=>(Rs.bind (Rs.ok a90.2) λx100=>(VG x99 x100))) λx97=>(Rs.bind (Rs.ok a37) λx98=>(VG x97 x98))) λx102=>(Rs.bind (Rs.ok a_1) λx103=>(Rs.ok (x101,x102,x103)))))) else(Rs.bind (E7 (Rs.bind (Rs.bind (Rs.ok a_2) λx104=>(Rs.bind (Rs.ok (0:Int)) λx105=>(atR x104 x105))) λx106=>(Rs.bind (Rs.ok (3:Int)) λx107=>(Rs.ok (decide (x106=x107))))) (Rs.bind (Rs.ok a_1) λx108=>(Rs.bind (Rs.ok (3:Int)) λx109=>(Rs.ok (decide (x109<x108)))))) λx110=>(if x110=true then(Rs.bind (Rs.bind (Rs.bind (Rs.bind (Rs.ok (0:Int)) λx114=>(Rs.bind (Rs.ok a18) λx115=>(Rs.ok (x114,x115)))) λx128=>(Rs.bind (Rs.bind (Rs.bind (Rs.bind (Rs.ok (2:Int)) λx122=>(Rs.bind (Rs.bind (Rs.bind (Rs.ok a_2) λx116=>(Rs.bind (Rs.ok (2:Int)) λx117=>(atR x116 x117))) λx120=>(Rs.bind (Rs.bind (Rs.ok a_1) λx118=>(Rs.bind (Rs.ok (3:Int)) λx119=>(Rs.ok (x118-x119)))) λx121=>(Zy x120 x121))) λx123=>(Rs.ok (x122+x123)))) λx124=>(Rs.bind (Rs.ok (1:Int)) λx125=>(Rs.ok (x124,x125)))) λx126=>(Rs.bind (Rs.ok []) λx127=>(Rs.ok (x126::x127)))) λx129=>(Rs.ok (x128::x129)))) λx113=>(chk (x113.length<=sizeLine) (Rs.ok x113))) λa111=>(Rs.bind (Rs.bind (Rs.bind (Rs.ok a36) λx132=>(Rs.bind (Rs.ok a111) λx133=>(VG x132 x133))) λx130=>(Rs.bind (Rs.ok a37) λx131=>(VG x130 x131))) λx141=>(Rs.bind (Rs.bind (Rs.bind (Rs.ok a36) λx136=>(Rs.bind (Rs.bind (Rs.ok a111) λx139=>(Rs.bind (Rs.bind (Rs.ok (1:Int)) λx138=>(Rs.ok (-x138))) λx140=>(chk (x140= -1) (Rs.ok x139.reverse)))) λx137=>(VG x136 x137))) λx134=>(Rs.bind (Rs.ok a37) λx135=>(VG x134 x135))) λx142=>(Rs.bind (Rs.ok a_1) λx143=>(Rs.ok (x141,x142,x143)))))) else(Rs.bind (Rs.ok a_0) λx155=>(Rs.bind (Rs.bind (Rs.ok a_0) λx144=>(Rs.bind (Rs.bind (Rs.bind (Rs.bind (Rs.bind (Rs.ok a_1) λx147=>(Rs.bind (Rs.ok (1:Int)) λx148=>(Rs.ok (x147-x148)))) λx149=>(Rs.bind (Rs.ok a18) λx150=>(Rs.ok (x149,x150)))) λx151=>(Rs.bind (Rs.ok []) λx152=>(Rs.ok (x151::x152)))) λx146=>(chk (x146.length<=sizeLine) (Rs.ok x146))) λx145=>(VG x144 x145))) λx156=>(Rs.bind (Rs.bind (Rs.ok a_1) λx153=>(Rs.bind (Rs.ok (1:Int)) λx154=>(Rs.ok (x153+x154)))) λx157=>(Rs.ok (x155,x156,x157))))))))))))))))))
noncomputable def Ge (a_0:(List Int)):Rs Bool:=(Rs.bind (Rs.bind (Rs.ok a_0) λx28=>(Rs.bind (Rs.ok (0:Int)) λx29=>(Rs.bind (Rs.bind (Rs.bind (Rs.bind (Rs.ok (19:Int)) λx19=>(Rs.bind (Rs.bind (Rs.ok (4:Int)) λx17=>(Rs.bind (Rs.bind (Rs.ok (5:Int)) λx15=>(Rs.bind (Rs.bind (Rs.ok (60:Int)) λx13=>(Rs.bind (Rs.bind (Rs.ok (60:Int)) λx11=>(Rs.bind (Rs.bind (Rs.ok (8:Int)) λx9=>(Rs.bind (Rs.bind (Rs.ok (4:Int)) λx7=>(Rs.bind (Rs.ok []) λx8=>(Rs.ok (x7::x8)))) λx10=>(Rs.ok (x9::x10)))) λx12=>(Rs.ok (x11::x12)))) λx14=>(Rs.ok (x13::x14)))) λx16=>(Rs.ok (x15::x16)))) λx18=>(Rs.ok (x17::x18)))) λx20=>(Rs.ok (x19::x20)))) λx6=>(chk (x6.length<=sizeLine) (Rs.ok x6))) λx4=>(Rs.bind (Rs.bind (Rs.bind (Rs.bind (Rs.ok (4:Int)) λx26=>(Rs.bind (Rs.bind (Rs.ok (2:Int)) λx24=>(Rs.bind (Rs.ok []) λx25=>(Rs.ok (x24::x25)))) λx27=>(Rs.ok (x26::x27)))) λx23=>(chk (x23.length<=sizeLine) (Rs.ok x23))) λx21=>(Rs.bind (Rs.ok (18:Int)) λx22=>(CC x21 x22))) λx5=>(VG x4 x5))) λx30=>(noE (K1 x28 x29 x30))))) λa1=>(Rs.bind (Rs.bind (Rs.ok (2:Int)) λx35=>(Rs.bind (Rs.bind (Rs.ok a1) λx33=>(Rs.bind (Rs.ok (1:Int)) λx34=>(atR x33 x34))) λx36=>(Rs.ok (x35+x36)))) λa31=>(Rs.bind (Rs.ok []) λa37=>(Rs.bind (Rs.bind (Rs.bind (Rs.ok a1) λx40=>(Rs.bind (Rs.ok (0:Int)) λx41=>(atR x40 x41))) λx42=>(CS 0 x42)) λx166=>(Rs.bind (forN x166 (a37) (λg45 a47=>(Rs.bind (Rs.bind (Rs.bind (Rs.bind (Rs.ok a1) λx53=>(Rs.bind (Rs.bind (Rs.ok (7:Int)) λx51=>(Rs.bind (Rs.bind (Rs.ok (2:Int)) λx49=>(Rs.bind (Rs.ok a47) λx50=>(QE x49 x50))) λx52=>(Rs.ok (x51+x52)))) λx54=>(atR x53 x54))) λx57=>(Rs.bind (Rs.bind (Rs.ok a31) λx55=>(Rs.bind (Rs.ok (1:Int)) λx56=>(Rs.ok (x55-x56)))) λx58=>(Zy x57 x58))) λx69=>(Rs.bind (Rs.bind (Rs.bind (Rs.ok (2:Int)) λx65=>(Rs.bind (Rs.bind (Rs.ok a1) λx63=>(Rs.bind (Rs.bind (Rs.ok (8:Int)) λx61=>(Rs.bind (Rs.bind (Rs.ok (2:Int)) λx59=>(Rs.bind (Rs.ok a47) λx60=>(QE x59 x60))) λx62=>(Rs.ok (x61+x62)))) λx64=>(atR x63 x64))) λx66=>(QE x65 x66))) λx67=>(Rs.bind (Rs.ok (1:Int)) λx68=>(Rs.ok (x67-x68)))) λx70=>(Rs.ok (x69,x70)))) λa71=>(chk (g45.length<sizeLine) ((λa73=>(Rs.ok (a73))) (g45++[a71])))))) λg74=>(Rs.bind (Rs.bind (Rs.bind (Rs.ok a_0) λx85=>(Rs.bind (Rs.ok (1:Int)) λx86=>(Rs.bind (Rs.bind (Rs.bind (Rs.ok (10:Int)) λx83=>(Rs.bind (Rs.bind (Rs.ok (99990:Int)) λx81=>(Rs.bind (Rs.bind (Rs.ok (5:Int)) λx79=>(Rs.bind (Rs.ok []) λx80=>(Rs.ok (x79::x80)))) λx82=>(Rs.ok (x81::x82)))) λx84=>(Rs.ok (x83::x84)))) λx78=>(chk (x78.length<=sizeLine) (Rs.ok x78))) λx87=>(noE (K1 x85 x86 x87))))) λx88=>(noE (Jm x88))) λa89=>(Rs.bind (Rs.bind (Rs.ok g74) λx97=>(Rs.bind (Rs.ok a31) λx98=>(Rs.bind (Rs.bind (Rs.ok a1) λx94=>(Rs.bind (Rs.bind (Rs.ok (2:Int)) λx93=>(Rs.ok (some x93))) λx95=>(Rs.bind (Rs.ok none) λx96=>(Rs.ok (Ue x94 x95 x96))))) λx99=>(noE (Qr x97 x98 x99))))) λa100=>(Rs.bind (Rs.bind (Rs.bind (Rs.bind (Rs.ok (1:Int)) λx115=>(Rs.bind (Rs.bind (Rs.ok (2:Int)) λx113=>(Rs.bind (Rs.bind (Rs.ok (7:Int)) λx111=>(Rs.bind (Rs.bind (Rs.bind (Rs.ok (10:Int)) λx107=>(Rs.bind (Rs.ok (9:Int)) λx108=>(HN x107 x108))) λx109=>(Rs.bind (Rs.ok []) λx110=>(Rs.ok (x109::x110)))) λx112=>(Rs.ok (x111::x112)))) λx114=>(Rs.ok (x113::x114)))) λx116=>(Rs.ok (x115::x116)))) λx106=>(chk (x106.length<=sizeLine) (Rs.ok x106))) λx119=>(Rs.bind (Rs.bind (Rs.ok a1) λx117=>(Rs.bind (Rs.ok (6:Int)) λx118=>(atR x117 x118))) λx120=>(atR x119 x120))) λa104=>(Rs.bind (Rs.bind (Rs.bind (Rs.ok a100.1) λx125=>(Rs.bind (Rs.ok a31) λx126=>(Rs.bind (Rs.ok (1:Int)) λx127=>(noE (ZE x125 x126 x127))))) λx128=>(Rs.bind (Rs.ok a89.1) λx129=>(Rs.bind (Rs.ok a89.2) λx130=>(noE (XX x128 x129 x130))))) λa121=>(Rs.bind (Rs.bind (Rs.bind (Rs.ok a121) λx132=>(noE (ZR x132))) λx133=>(Rs.ok (!x133))) λx134=>(if x134=true then(Rs.ok false) else(Rs.bind (Rs.bind (Rs.bind (Rs.ok a100.2.1) λx139=>(Rs.bind (Rs.ok a100.2.2) λx140=>(Rs.bind (Rs.ok a104) λx141=>(noE (ZE x139 x140 x141))))) λx142=>(Rs.bind (Rs.ok a89.1) λx143=>(Rs.bind (Rs.ok a89.2) λx144=>(noE (XX x142 x143 x144))))) λa135=>(Rs.bind (orR (Rs.bind (Rs.ok a135) λx145=>(Rs.bind (Rs.ok a121) λx146=>(Rs.ok (!(decide (x145=x146)))))) (Rs.bind (Rs.ok a121) λx147=>(Rs.bind (Rs.ok (1:Int)) λx148=>(Rs.ok (decide (x147<x148)))))) λx149=>(if x149=true then(Rs.ok false) else(Rs.bind (ZV (200) (a121) (λg152=>(Rs.bind (Rs.bind (Rs.ok g152) λx154=>(Rs.bind (Rs.ok a89.1) λx155=>(Zy x154 x155))) λx156=>(Rs.bind (Rs.ok (0:Int)) λx157=>(Rs.ok (decide (x156=x157)))))) (λg152=>(Rs.bind (Rs.bind (Rs.ok g152) λx160=>(Rs.bind (Rs.ok a89.1) λx161=>(CT x160 x161))) λa158=>(Rs.ok (a158))))) λg162=>(Rs.bind (Rs.ok g162) λx164=>(Rs.bind (Rs.ok (1:Int)) λx165=>(Rs.ok (decide (x164=x165))))))))))))))))))))
end My
namespace L2
open PySem
section
variable {α β γ ρ:Type}
theorem Rs.okb (a:α)(f:α->Rs β):(Rs.ok a).bind f=f a:=(Eq.refl (f a)).symm.symm
theorem Cw {f:α->Rs β}{h:α->β}:∀{as:List α},(∀a∈as,f a= .ok (h a))->Fg as f= .ok (as.map h)
 | [],_=>rfl
 |a::as,hf=>by
  show(f a).bind _=_
  rw[hf a (by simp),Rs.ok_bind,Cw λb hb=>hf b (by simp[hb])];rfl
theorem ZN {f:α->Rs β}{h:α->β}{as:List α}(hl:as.length<=sizeLine)(hf:∀a∈as,f a= .ok (h a)):UW as f= .ok (as.map h):=by
 unfold UW;rw[Xv hl];exact Cw hf
theorem CH {c:α->Rs Bool}{f:α->Rs β}{p:α->Bool}{h:α->β}:∀{as:List α},(∀a∈as,c a= .ok (p a))->(∀a∈as,p a=true->f a= .ok (h a))->Gm as c f= .ok ((as.filter p).map h)
 | [],_,_=>rfl
 |a::as,hc,hf=>by
  show(c a).bind _=_
  rw[hc a (by simp),Rs.ok_bind]
  have ih:=CH (as:=as) (λb hb=>hc b (by simp[hb])) λb hb=>hf b (by simp[hb])
  cases hp:p a with
  |false=>rw[if_neg (by simp),ih,List.filter_cons,hp];rfl
  |true=>rw[if_pos rfl,hf a (by simp) hp,Rs.ok_bind,ih,List.filter_cons,hp];rfl
theorem K9 {c:α->Rs Bool}{f:α->Rs β}{p:α->Bool}{h:α->β}{as:List α}(hl:as.length<=sizeLine)(hc:∀a∈as,c a= .ok (p a))(hf:∀a∈as,p a=true->f a= .ok (h a)):E9 as c f= .ok ((as.filter p).map h):=by
 unfold E9;rw[Xv hl];exact CH hc hf
theorem CN {f:γ->α->Rs γ}{h:γ->α->γ}:∀{as:List α}{g:γ},(∀g,∀a∈as,f g a= .ok (h g a))->forN as g f= .ok (as.foldl h g)
 | [],_,_=>rfl
 |a::as,g,hf=>by
  show(f g a).bind _=_
  rw[hf g a (by simp),Rs.ok_bind]
  exact CN λg b hb=>hf g b (by simp[hb])
theorem Kc {f:γ->α->Rs γ}(P:Nat->γ->Prop):∀(as:List α) (k:Nat) (g:γ),P k g->(∀i a g,as[i]?=some a->P (k+i) g->∃g',f g a= .ok g'/\P (k+i+1) g')->∃g',forN as g f= .ok g'/\P (k+as.length) g'
 | [],k,g,h0,_=>⟨g,rfl,h0⟩
 |a::as,k,g,h0,hs=>by
  obtain⟨g1,e1,p1⟩:=hs 0 a g rfl h0
  obtain⟨g2,e2,p2⟩:=Kc P as (k+1) g1 p1 λi b g hb hp=>by
   obtain⟨g',e',p'⟩:=hs (i+1) b g (by simpa using hb) (by rw[show k+(i+1)=k+1+i by omega];exact hp)
   exact⟨g',e',by rw[show k+1+i+1=k+(i+1)+1 by omega];exact p'⟩
  refine⟨g2,?_,by rw[List.length_cons,show k+(as.length+1)=k+1+as.length by omega];exact p2⟩
  show(f g a).bind _=_
  rw[e1,Rs.ok_bind];exact e2
theorem GG {f:γ->α->Rs γ}(P:Nat->γ->Prop){as:List α}{g:γ}(h0:P 0 g)(hs:∀i a g,as[i]?=some a->P i g->∃g',f g a= .ok g'/\P (i+1) g'):∃g',forN as g f= .ok g'/\P as.length g':=by
 have:=Kc P as 0 g h0 (by simpa using hs)
 simpa using this
theorem Qi {f:List β->α->Rs (List β)}{h:α->β}:∀{as:List α}{g:List β},g.length+as.length<=sizeLine->(∀g:List β,g.length<sizeLine->∀a∈as,f g a= .ok (g++[h a]))->forN as g f= .ok (g++as.map h)
 | [],g,_,_=>by simp[forN]
 |a::as,g,hl,hf=>by
  show(f g a).bind _=_
  rw[List.length_cons] at hl
  rw[hf g (by omega) a (by simp),Rs.ok_bind,Qi (by simp;omega) λg hg b hb=>hf g hg b (by simp[hb])]
  simp
theorem UV {f:γ->α->Rs (Ctl ρ γ)}(P:Nat->γ->Prop):∀(as:List α) (k:Nat) (g:γ),P k g->(∀i a g,as[i]?=some a->P (k+i) g->∃g',f g a= .ok (.nx g')/\P (k+i+1) g')->∃g',forC as g f= .ok (.nx g')/\P (k+as.length) g'
 | [],k,g,h0,_=>⟨g,rfl,h0⟩
 |a::as,k,g,h0,hs=>by
  obtain⟨g1,e1,p1⟩:=hs 0 a g rfl h0
  obtain⟨g2,e2,p2⟩:=UV P as (k+1) g1 p1 λi b g hb hp=>by
   obtain⟨g',e',p'⟩:=hs (i+1) b g (by simpa using hb) (by rw[show k+(i+1)=k+1+i by omega];exact hp)
   exact⟨g',e',by rw[show k+1+i+1=k+(i+1)+1 by omega];exact p'⟩
  refine⟨g2,?_,by rw[List.length_cons,show k+(as.length+1)=k+1+as.length by omega];exact p2⟩
  show(f g a).bind _=_
  rw[e1,Rs.ok_bind];exact e2
theorem Bq {f:γ->α->Rs (Ctl ρ γ)}(P:Nat->γ->Prop){as:List α}{g:γ}(h0:P 0 g)(hs:∀i a g,as[i]?=some a->P i g->∃g',f g a= .ok (.nx g')/\P (i+1) g'):∃g',forC as g f= .ok (.nx g')/\P as.length g':=by
 have:=UV P as 0 g h0 (by simpa using hs)
 simpa using this
theorem XN {a b:Int}(h:0<b):Zy a b= .ok (a % b):=Xv h
theorem Yv {a b:Int}(h1: -(2^64)<a)(h2:a<2^64):QE a b= .ok (a*b):=Xv (.inl ⟨h1,h2⟩)
theorem Ji {a b:Int}(h1: -(2^64)<b)(h2:b<2^64):QE a b= .ok (a*b):=Xv (.inr ⟨h1,h2⟩)
theorem Ka {a b:Int}(h:0<b)(h2:b<2^250):CT a b= .ok (a/b):=Xv ⟨h,by
 have h3:b.natAbs<2^250:=by omega
 rcases Nat.eq_zero_or_pos b.natAbs with h0 |h0
 ·omega
 ·have:=(Nat.log2_lt (by omega)).mpr h3
  omega⟩
theorem Gs {a b:Int}(h0:0<=b)(h1:b<=1000000)(h2: -(2^64)<a)(h3:a<2^64):HN a b= .ok (a^b.toNat):=Xv ⟨h0,h1,by omega⟩
theorem YA {as:List α}{i:Nat}{a:α}(h:as[i]?=some a):atR as (i:Int)= .ok a:=by
 have hlt:=(List.getElem?_eq_some_iff.mp h).1
 unfold atR atI ixN
 rw[if_pos (by omega),if_pos (by omega)]
 simp[h]
theorem Lm {as:List α}{i:Int}{a:α}(h0:0<=i)(h:as[i.toNat]?=some a):atR as i= .ok a:=by
 have:i=(i.toNat:Int):=by omega
 rw[this];exact YA h
theorem J1 {n:Nat}(h:n<2^62):CS 0 (n:Int)= .ok ((List.range n).map λ(i:Nat)=>(i:Int)):=by
 unfold CS
 rw[Xv (by omega)]
 unfold Q2
 congr 1
 rw[Int.sub_zero,Int.toNat_natCast]
 exact List.map_congr_left λi _=>by omega
theorem Qe {n i:Nat}{a:Int}(h:((List.range n).map λ(i:Nat)=>(i:Int))[i]?=some a):a=(i:Int)/\i<n:=by
 have hlt:=(List.getElem?_eq_some_iff.mp h).1
 simp only[List.length_map,List.length_range] at hlt
 rw[List.getElem?_map,List.getElem?_range hlt] at h
 exact⟨(Option.some.inj h).symm,hlt⟩
theorem Ke {n:Nat}{a:Int}(h:a∈(List.range n).map λ(i:Nat)=>(i:Int)):∃i:Nat,i<n/\a=(i:Int):=by
 obtain⟨i,hi,rfl⟩:=List.mem_map.mp h
 exact⟨i,List.mem_range.mp hi,rfl⟩
theorem Qj {n:Nat}:((List.range n).map λ(i:Nat)=>(i:Int)).length=n:=by simp
theorem ID {a:Bool}{b:Rs Bool}{c:Bool}(h:a=true->b= .ok c):E7 (.ok a) b= .ok (a&&c):=by
 cases a with
 |false=>rfl
 |true=>
  show(if true=true then b else Rs.ok false)=_
  rw[if_pos rfl,h rfl];rfl
theorem sz {n:Nat}(h:n<=100000):n<=sizeLine:=Nat.le_trans h (by decide)
theorem HL {n:Nat}(h:n<=100000):n<sizeLine:=Nat.lt_of_le_of_lt h (by decide)
noncomputable def Ok (m:Rs β)(R:β->Prop):Prop:=∃ r,m= .ok r/\R r
theorem Ok.pure {R:β->Prop}{a:β}(h:R a):Ok (.ok a) R:=⟨a,rfl,h⟩
theorem Ok.bind {m:Rs α}{f:α->Rs β}{R:α->Prop}{T:β->Prop}(h:Ok m R)(hf:∀a,R a->Ok (f a) T):Ok (m.bind f) T:=by
 obtain⟨a,e,ha⟩:=h
 rw[e];exact hf a ha
theorem Ok.imp {m:Rs α}{R T:α->Prop}(h:Ok m R)(hf:∀a,R a->T a):Ok m T:=by
 obtain⟨a,e,ha⟩:=h
 exact⟨a,e,hf a ha⟩
theorem Ok.noE {m:Rs α}{R:α->Prop}(h:Ok m R):Ok (noE m) R:=by
 obtain⟨a,e,ha⟩:=h
 rw[e];exact⟨a,rfl,ha⟩
theorem Ok.chk {c:Prop}[Decidable c]{m:Rs α}{R:α->Prop}(hc:c)(h:Ok m R):Ok (chk c m) R:=by rw[Xv hc];exact h
theorem Ok.ite {b:Bool}{m n:Rs α}{R:α->Prop}(h1:b=true->Ok m R)(h2:b=false->Ok n R):Ok (if b=true then m else n) R:=by
 cases b with
 |true=>rw[if_pos rfl];exact h1 rfl
 |false=>rw[if_neg Bool.false_ne_true];exact h2 rfl
theorem Ok.forN {f:γ->α->Rs γ}(P:Nat->γ->Prop){as:List α}{g:γ}(h0:P 0 g)(hs:∀i a g,as[i]?=some a->P i g->Ok (f g a) (P (i+1))):Ok (forN as g f) (P as.length):=GG P h0 hs
theorem Ok.forC {f:γ->α->Rs (Ctl ρ γ)}(P:Nat->γ->Prop){as:List α}{g:γ}(h0:P 0 g)(hs:∀i a g,as[i]?=some a->P i g->∃g',f g a= .ok (.nx g')/\P (i+1) g'):Ok (forC as g f) (λc=>∃ g',c= .nx g'/\P as.length g'):=by
 obtain⟨g',e,h⟩:=Bq P h0 hs
 exact⟨_,e,g',rfl,h⟩
theorem BL {f:γ->Rs ρ}(g:γ):Jg f (.nx g)=f g:=(Eq.refl (f g)).symm.symm
theorem Do {f:γ->Rs ρ}(r:ρ):Jg f (.ret r)= .ok r:=(Eq.refl (Rs.ok r)).symm.symm
theorem XB (a:α):noE (Rs.ok a)= .ok a:=(Eq.refl (Rs.ok a)).symm.symm
theorem Ok.of {m:Rs α}{a:α}(h:m= .ok a):Ok m (λb=>b=a):=⟨a,h,rfl⟩
theorem Ok.eq {m:Rs α}{a:α}(h:Ok m (λb=>b=a)):m= .ok a:=by
 obtain⟨b,e,rfl⟩:=h
 exact e
end
end L2
namespace My
structure Col (n:Nat)(f:Nat->Nat->Nat):Prop where
 lt:∀a b,a<n->b<n->f a b<n
 r2:∀x y b,x<n->y<n->b<n->f x b=f y b->x=y
structure GoodF (n:Nat)(f:Nat->Nat->Nat):Prop extends Col n f where
 r1:∀a,a<n->f a a=a
 r3:∀a b c,a<n->b<n->c<n->f (f a b) c=f (f a c) (f b c)
theorem GoodF.congr {n:Nat}{f g:Nat->Nat->Nat}(h:GoodF n f)(e:∀a b,a<n->b<n->g a b=f a b):GoodF n g where
 lt a b ha hb:=by rw[e a b ha hb];exact h.lt a b ha hb
 r2 x y b hx hy hb q:=by rw[e x b hx hb,e y b hy hb] at q;exact h.r2 x y b hx hy hb q
 r1 a ha:=by rw[e a a ha ha];exact h.r1 a ha
 r3 a b c ha hb hc:=by
  rw[e a b ha hb,e a c ha hc,e b c hb hc,e _ c (h.lt a b ha hb) hc,e _ _ (h.lt a c ha hc) (h.lt b c hb hc)]
  exact h.r3 a b c ha hb hc
structure PermN (n:Nat)(p q:Nat->Nat):Prop where
 lt:∀a,a<n->p a<n
 qlt:∀a,a<n->q a<n
 pq:∀a,a<n->p (q a)=a
 qp:∀a,a<n->q (p a)=a
theorem PermN.good {n:Nat}{p q:Nat->Nat}{f:Nat->Nat->Nat}(h:PermN n p q)(g:GoodF n f):GoodF n (λx y=>p (f (q x) (q y))) where
 lt a b ha hb:=h.lt _ (g.lt _ _ (h.qlt a ha) (h.qlt b hb))
 r2 x y b hx hy hb e:=by
  have e1:q (p (f (q x) (q b)))=q (p (f (q y) (q b))):=congrArg q e
  rw[h.qp _ (g.lt _ _ (h.qlt x hx) (h.qlt b hb)),h.qp _ (g.lt _ _ (h.qlt y hy) (h.qlt b hb))] at e1
  have:=g.r2 _ _ _ (h.qlt x hx) (h.qlt y hy) (h.qlt b hb) e1
  rw[←h.pq x hx, ←h.pq y hy,this]
 r1 a ha:=by
  show p (f (q a) (q a))=a
  rw[g.r1 _ (h.qlt a ha),h.pq a ha]
 r3 a b c ha hb hc:=by
  have l1:=g.lt _ _ (h.qlt a ha) (h.qlt b hb)
  have l2:=g.lt _ _ (h.qlt a ha) (h.qlt c hc)
  have l3:=g.lt _ _ (h.qlt b hb) (h.qlt c hc)
  show p (f (q (p (f (q a) (q b)))) (q c))=p (f (q (p (f (q a) (q c)))) (q (p (f (q b) (q c)))))
  rw[h.qp _ l1,h.qp _ l2,h.qp _ l3,g.r3 _ _ _ (h.qlt a ha) (h.qlt b hb) (h.qlt c hc)]
end My
namespace My
open PySem L2
theorem UH {α:Type}{as:List α}{i:Nat}{a:α}(h:i<as.length):Vd as (i:Int) a= .ok (as.set i a):=by
 unfold Vd ixN
 rw[if_pos (by omega),if_pos (by omega)]
 simp
noncomputable def Ed (n:Nat)(sp:List Int)(p q:Nat->Nat):Prop:=PermN n p q/\sp=(List.range n).map λi=>((p i:Nat):Int)
theorem Ed.get {n:Nat}{sp:List Int}{p q:Nat->Nat}(h:Ed n sp p q){i:Nat}(hi:i<n):atR sp (i:Int)= .ok ((p i:Nat):Int):=YA (by rw[h.2,List.getElem?_map,List.getElem?_range hi];rfl)
theorem Uq {α:Type}(as:List α){k:Nat}(h:k<=as.length):Ue as (some (k:Int)) none=as.drop k:=by
 unfold Ue
 rw[HT.sIx_nat,HT.sIx_none,Nat.min_eq_left h,List.take_of_length_le (by rw[List.length_drop];omega)]
end My
namespace My
theorem Kf (names:List Int):(names.flatMap λx=>[x,-x]).length=2*names.length:=by
 induction names with
 |nil=>rfl
 |cons x r ih=>rw[List.flatMap_cons,List.length_append,ih];simp;omega
theorem UY:∀{l:List Bool}{j:Nat},l[j]?=some false->(l.set j true).count false+1=l.count false
 | [],_,e=>by simp at e
 |a::r,0,e=>by
  have e':a=false:=by simpa using e
  subst e';simp
 |a::r,j+1,e=>by
  have e':r[j]?=some false:=by simpa using e
  have ih:=UY e'
  rw[List.set_cons_succ,List.count_cons,List.count_cons]
  omega
end My
namespace My
noncomputable def JE (r:Int×Int)(at':Int):List Int:=if at'=r.1 then[r.2] else if at'=r.1+1 then[-r.2] else[]
noncomputable def Qf (r:Int×Int)(at':Int):Int:=if at'=r.1 then r.1+1 else if at'=r.1+1 then r.1 else at'
noncomputable def X6:List (Int×Int)->Int->Int
 | [],a=>a
 |r::rs,a=>X6 rs (Qf r a)
noncomputable def Yz:List (Int×Int)->Int->List Int
 | [],_=>[]
 |r::rs,a=>JE r a++Yz rs (Qf r a)
theorem QU (rs:List (Int×Int))(r:Int×Int):∀a,X6 (rs++[r]) a=Qf r (X6 rs a):=by
 induction rs with
 |nil=>intro a;rfl
 |cons q rs ih=>intro a;exact ih _
theorem QT (rs:List (Int×Int))(r:Int×Int):∀a,Yz (rs++[r]) a=Yz rs a++JE r (X6 rs a):=by
 induction rs with
 |nil=>intro a;simp[Yz,X6]
 |cons q rs ih=>intro a;simp[Yz,X6,ih]
theorem Ui {S:Int}{r:Int×Int}{a:Int}(h0:0<=r.1)(h1:r.1+1<S)(a0:0<=a)(a1:a<S):0<=Qf r a/\Qf r a<S:=by
 unfold Qf
 split
 ·omega
 ·split<;> omega
noncomputable def Gf (S:Nat):List Int:=(List.range S).map λ(k:Nat)=>(k:Int)
theorem ZD {S:Nat}{x:Int}:x∈Gf S↔0<=x/\x<(S:Int):=by
 unfold Gf
 rw[List.mem_map]
 constructor
 ·rintro⟨k,hk,rfl⟩
  have:=List.mem_range.mp hk
  omega
 ·rintro⟨h0,h1⟩
  exact⟨x.toNat,List.mem_range.mpr (by omega),by omega⟩
theorem Z2 {α β:Type}{f:α->β}:∀{l:List α},(∀a b,a∈l->b∈l->f a=f b->a=b)->l.Nodup->(l.map f).Nodup
 | [],_,_=>List.nodup_nil
 |a::r,h,nd=>by
  rw[List.map_cons,List.nodup_cons]
  refine⟨λm=>?_,Z2 (λx y hx hy=>h x y (List.mem_cons_of_mem _ hx) (List.mem_cons_of_mem _ hy)) (List.nodup_cons.mp nd).2⟩
  obtain⟨b,hb,e⟩:=List.mem_map.mp m
  have:=h b a (List.mem_cons_of_mem _ hb) List.mem_cons_self e
  exact(List.nodup_cons.mp nd).1 (by rw[←this];exact hb)
theorem ZQ (S:Nat):(Gf S).Nodup:=Z2 (λa b _ _ e=>by omega) List.nodup_range
theorem Jb {α:Type}[DecidableEq α]:∀{l m:List α},l.Nodup->m.Nodup->(∀x,x∈l↔x∈m)->l.Perm m
 | [],m,_,_,h=>by
  cases m with
  |nil=>exact List.Perm.refl _
  |cons a r=>exact absurd ((h a).mpr List.mem_cons_self) (by simp)
 |a::r,m,nl,nm,h=>by
  have ha:a∈m:=(h a).mp List.mem_cons_self
  have hp:m.Perm (a::m.erase a):=List.perm_cons_erase ha
  refine List.Perm.trans (List.Perm.cons a ?_) hp.symm
  have nd2:(a::m.erase a).Nodup:=hp.nodup_iff.mp nm
  refine Jb (List.nodup_cons.mp nl).2 (List.nodup_cons.mp nd2).2 λx=>?_
  constructor
  ·intro hx
   have hxa:x≠a:=λe=>(List.nodup_cons.mp nl).1 (by rw[←e];exact hx)
   have:x∈a::m.erase a:=hp.mem_iff.mp ((h x).mp (List.mem_cons_of_mem _ hx))
   exact(List.mem_cons.mp this).resolve_left hxa
  ·intro hx
   have hxa:x≠a:=λe=>(List.nodup_cons.mp nd2).1 (e▸hx)
   have:x∈a::r:=(h x).mpr (hp.mem_iff.mpr (List.mem_cons_of_mem _ hx))
   exact(List.mem_cons.mp this).resolve_left hxa
theorem Fx {S:Nat}{r:Int×Int}(h0:0<=r.1)(h1:r.1+1<(S:Int)):((Gf S).map (Qf r)).Perm (Gf S):=by
 refine Jb (Z2 (λa b _ _ e=>?_) (ZQ S)) (ZQ S) λx=>?_
 ·unfold Qf at e
  split at e<;> split at e<;> (try split at e)<;> (try split at e)<;> omega
 ·rw[List.mem_map,ZD]
  constructor
  ·rintro⟨a,ha,rfl⟩
   have:=ZD.mp ha
   exact Ui h0 h1 this.1 this.2
  ·rintro⟨x0,x1⟩
   refine⟨Qf r x,ZD.mpr (Ui h0 h1 x0 x1),?_⟩
   unfold Qf
   split<;> (try split)<;> (try split)<;> omega
theorem Qh {α β:Type}(f:α->List β){l m:List α}(h:l.Perm m):(l.flatMap f).Perm (m.flatMap f):=by
 induction h with
 |nil=>exact List.Perm.refl _
 |cons x _ ih=>rw[List.flatMap_cons,List.flatMap_cons];exact List.Perm.append_left _ ih
 |swap x y l=>
  rw[List.flatMap_cons,List.flatMap_cons,List.flatMap_cons,List.flatMap_cons, ←List.append_assoc, ←List.append_assoc]
  exact List.Perm.append_right _ List.perm_append_comm
 |trans _ _ ih1 ih2=>exact ih1.trans ih2
theorem VC {α β:Type}(f g:α->List β):∀l:List α,(l.flatMap λx=>f x++g x).Perm (l.flatMap f++l.flatMap g)
 | []=>List.Perm.refl _
 |a::r=>by
  rw[List.flatMap_cons,List.flatMap_cons,List.flatMap_cons]
  refine(List.Perm.append_left _ (VC f g r)).trans ?_
  rw[List.append_assoc,List.append_assoc]
  refine List.Perm.append_left _ ?_
  rw[←List.append_assoc, ←List.append_assoc]
  exact List.Perm.append_right _ List.perm_append_comm
theorem QI {α β:Type}(f:α->List β):∀{l:List α},(∀x∈l,f x=[])->l.flatMap f=[]
 | [],_=>rfl
 |a::r,h=>by rw[List.flatMap_cons,h a List.mem_cons_self,QI f λx hx=>h x (List.mem_cons_of_mem _ hx)];rfl
theorem Bv {S:Nat}{r:Int×Int}(h0:0<=r.1)(h1:r.1+1<(S:Int)):((Gf S).flatMap (JE r)).Perm [r.2,-r.2]:=by
 have ha:r.1∈Gf S:=ZD.mpr ⟨h0,by omega⟩
 have hp:=List.perm_cons_erase ha
 have nd:=hp.nodup_iff.mp (ZQ S)
 have hb:r.1+1∈(Gf S).erase r.1:=by
  have:r.1+1∈r.1::(Gf S).erase r.1:=hp.mem_iff.mp (ZD.mpr ⟨by omega,h1⟩)
  exact(List.mem_cons.mp this).resolve_left (by omega)
 have hq:=List.perm_cons_erase hb
 have nd2:=hq.nodup_iff.mp (List.nodup_cons.mp nd).2
 refine(Qh _ (hp.trans (List.Perm.cons _ hq))).trans ?_
 rw[List.flatMap_cons,List.flatMap_cons,QI]
 ·unfold JE
  rw[if_pos rfl,if_neg (by omega),if_pos rfl]
  exact List.Perm.refl _
 ·intro x hx
  have x2:x≠r.1+1:=λe=>(List.nodup_cons.mp nd2).1 (e▸hx)
  have x1:x≠r.1:=λe=>(List.nodup_cons.mp nd).1 (e▸hq.mem_iff.mpr (List.mem_cons_of_mem _ hx))
  unfold JE
  rw[if_neg x1,if_neg x2]
theorem QN {α β γ:Type}(f:α->β)(g:β->List γ)(l:List α):(l.map f).flatMap g=l.flatMap λx=>g (f x):=by
 induction l with
 |nil=>rfl
 |cons a r ih=>rw[List.map_cons,List.flatMap_cons,List.flatMap_cons,ih]
theorem GN {S:Nat}:∀{rs:List (Int×Int)},(∀r∈rs,0<=r.1/\r.1+1<(S:Int))->((Gf S).flatMap (Yz rs)).Perm (rs.flatMap λr=>[r.2,-r.2])
 | [],_=>by rw[QI (Yz []) (λx _=>rfl)];exact List.Perm.refl _
 |r::rs,h=>by
  obtain⟨h0,h1⟩:=h r List.mem_cons_self
  rw[List.flatMap_cons]
  refine(VC (JE r) (λa=>Yz rs (Qf r a)) (Gf S)).trans ?_
  refine List.Perm.append (Bv h0 h1) ?_
  rw[←QN (Qf r) (Yz rs)]
  exact(Qh _ (Fx h0 h1)).trans (GN λq hq=>h q (List.mem_cons_of_mem _ hq))
theorem EG {x s:Int}(h:s=1∨s= -1): [x*s,-(x*s)].Perm [x,-x]:=by
 rcases h with h |h
 ·subst h;simp
 ·subst h
  have e1:x* -1= -x:=by omega
  have e2: -(-x)=x:=by omega
  rw[e1,e2]
  exact List.Perm.swap _ _ _
theorem QW {α β:Type}{f g:α->List β}:∀{l:List α},(∀x∈l,(f x).Perm (g x))->(l.flatMap f).Perm (l.flatMap g)
 | [],_=>List.Perm.refl _
 |a::r,h=>by
  rw[List.flatMap_cons,List.flatMap_cons]
  exact List.Perm.append (h a List.mem_cons_self) (QW λx hx=>h x (List.mem_cons_of_mem _ hx))
end My
namespace My
theorem Ul {r:Int×Int}{a:Int}(h:a=r.1):JE r a=[r.2]:=by unfold JE;rw[if_pos h]
theorem Ur {r:Int×Int}{a:Int}(h:a=r.1+1):JE r a=[-r.2]:=by unfold JE;rw[if_neg (by omega),if_pos h]
theorem Dn {r:Int×Int}{a:Int}(h:¬a=r.1)(h2:¬a=r.1+1):JE r a=[]:=by unfold JE;rw[if_neg h,if_neg h2]
theorem Uf {r:Int×Int}{a:Int}(h:a=r.1):Qf r a=r.1+1:=by unfold Qf;rw[if_pos h]
theorem Uj {r:Int×Int}{a:Int}(h:a=r.1+1):Qf r a=r.1:=by unfold Qf;rw[if_neg (by omega),if_pos h]
theorem Dm {r:Int×Int}{a:Int}(h:¬a=r.1)(h2:¬a=r.1+1):Qf r a=a:=by unfold Qf;rw[if_neg h,if_neg h2]
structure Done (S:Int)(seen:List Bool)(ps:List Int):Prop where
 nd:ps.Nodup
 at':∀p∈ps,0<=p/\p<S/\seen[p.toNat]?=some true
 of:∀q:Nat,seen[q]?=some true->(q:Int)∈ps
theorem Done.none (S:Int)(n:Nat):Done S (List.replicate n false) []:=
 ⟨List.nodup_nil,λp h=>by simp at h,λq h=>by
  rw[List.getElem?_replicate] at h
  split at h<;> cases h⟩
theorem Ua {l:List Bool}{j q:Nat}(h:l[q]?=some true):(l.set j true)[q]?=some true:=by
 by_cases e:j=q
 ·subst e
  rw[List.getElem?_set_self (List.getElem?_eq_some_iff.mp h).1]
 ·rw[List.getElem?_set_ne e];exact h
theorem Done.snoc {S:Int}{seen:List Bool}{ps:List Int}{a:Int}(h:Done S seen ps)(a0:0<=a)(a1:a<S)(e:seen[a.toNat]?=some false):Done S (seen.set a.toNat true) (ps++[a]):=by
 have hl:a.toNat<seen.length:=(List.getElem?_eq_some_iff.mp e).1
 have hn:a∉ps:=λm=>by
  have:=(h.at' a m).2.2
  rw[e] at this;cases this
 refine⟨?_,λp hp=>?_,λq hq=>?_⟩
 ·rw[List.nodup_append]
  refine⟨h.nd,by simp,λx hx y hy=>?_⟩
  rw[List.mem_singleton.mp hy]
  exact λe=>hn (e▸hx)
 ·rcases List.mem_append.mp hp with hp |hp
  ·obtain⟨h1,h2,h3⟩:=h.at' p hp
   exact⟨h1,h2,Ua h3⟩
  ·rw[List.mem_singleton.mp hp]
   exact⟨a0,a1,by rw[List.getElem?_set_self hl]⟩
 ·by_cases hqa:a.toNat=q
  ·exact List.mem_append_right _ (List.mem_singleton.mpr (by omega))
  ·rw[List.getElem?_set_ne hqa] at hq
   exact List.mem_append_left _ (h.of q hq)
theorem Done.all {S:Int}{seen:List Bool}{ps:List Int}(h:Done S seen ps)(hl:seen.length=S.toNat)(h0:0<=S)(ha:∀q:Nat,q<S.toNat->seen[q]?=some true):ps.Perm (Gf S.toNat):=by
 refine Jb h.nd (ZQ _) λx=>?_
 rw[ZD]
 constructor
 ·intro hx
  obtain⟨h1,h2,_⟩:=h.at' x hx
  omega
 ·rintro⟨x0,x1⟩
  have:=h.of x.toNat (ha x.toNat (by omega))
  rw[show((x.toNat:Nat):Int)=x by omega] at this
  exact this
theorem Gu {seen:List Bool}{i:Nat}(h:∀q:Nat,q<i->seen[q]?=some true)(hi:seen[i]?=some true):∀q:Nat,q<i+1->seen[q]?=some true:=λq hq=>by
 by_cases e:q=i
 ·subst e;exact hi
 ·exact h q (by omega)
end My
namespace My
open PySem L2
theorem Cu (ns:List Int){p:Int}(hp:0<=p):∃c,Vv ns p= .ok c:=by
 unfold Vv
 simp only[Rs.okb]
 by_cases h:p<(ns.length:Int)
 ·rw[decide_eq_true h,if_pos rfl]
  have hl:p.toNat<ns.length:=by omega
  exact⟨ns[p.toNat],Lm hp (by simp[hl])⟩
 ·rw[decide_eq_false h,if_neg Bool.false_ne_true]
  obtain⟨g,e,_⟩:=GG (as:=Ue ns none (some 63)) (g:=(5:Int)) (f:=λg15 a17=>(Rs.bind (Rs.bind (Rs.bind (Rs.bind (QE g15 48271) λx25=>(Rs.bind (Zy a17 1000003) λx26=>(Rs.ok (x25+x26)))) λx27=>Rs.ok (x27+1)) λx29=>Zy x29 2147483647) λa19=>(Rs.ok (a19)))) (λ_ _=>True) True.intro λi a g _ _=>by
   rw[Ji (by decide) (by decide),Rs.ok_bind,XN (by decide),Rs.ok_bind,Rs.ok_bind,Rs.ok_bind,XN (by decide),Rs.ok_bind]
   exact⟨_,rfl,True.intro⟩
  rw[e,Rs.ok_bind,Yv (by decide) (by decide),Rs.ok_bind,Rs.ok_bind,XN (by decide)]
  exact⟨_,rfl⟩
theorem Ej (c:Int){k:Int}(h0:0<=k)(h1:k<=100000):∃y,Gb c k= .ok y/\0<=y:=by
 unfold Gb
 simp only[Rs.okb]
 have hm:0<=c % 2147483629/\c % 2147483629<2147483629:=⟨Int.emod_nonneg _ (by decide),Int.emod_lt_of_pos _ (by decide)⟩
 rw[XN (by decide),Rs.ok_bind,Yv (by decide) (by decide),Rs.ok_bind,Rs.ok_bind,Rs.ok_bind,Gs (by decide) (by decide) (by omega) (by omega),Rs.ok_bind,XN (by decide),Rs.ok_bind]
 rw[Ji (by decide) (by decide),Rs.ok_bind,Yv (by decide) (by decide),Rs.ok_bind,Ji (by omega) (by omega),Rs.ok_bind,Rs.ok_bind,Rs.ok_bind,XN (by decide),Rs.ok_bind,Ka (by decide) (by decide)]
 exact⟨_,rfl,Int.ediv_nonneg (Int.emod_nonneg _ (by decide)) (by decide)⟩
theorem Eb (ns:List Int){p:Int}(hp:0<=p)(sizes:List Int)(hl:sizes.length<=100000)(hs:∀x∈sizes,0<x/\x<2^250):
  Ok (K1 ns p sizes) λr=>r.length=sizes.length/\∀(i:Nat) x s,r[i]?=some x->sizes[i]?=some s->0<=x/\x<s:=by
 obtain⟨c,ec⟩:=Cu ns hp
 unfold K1
 simp only[Rs.okb]
 rw[ec,show noE (Rs.ok c)= .ok c from rfl,Rs.ok_bind,J1 (by omega),Rs.ok_bind,Gs (by decide) (by decide) (by decide) (by decide)]
 simp only[Rs.okb]
 have key:∀(i:Nat) (a:Int) (g:List Int×Int),((List.range sizes.length).map λ(i:Nat)=>(i:Int))[i]?=some a->(g.1.length=i/\∀(j:Nat) x s,g.1[j]?=some x->sizes[j]?=some s->0<=x/\x<s)->∀y z:Int,∀s,sizes[i]?=some s->0<=y/\y<s->((g.1++[y],z).1.length=i+1/\∀(j:Nat) x s,(g.1++[y],z).1[j]?=some x->sizes[j]?=some s->0<=x/\x<s):=by
  intro i a g ha ⟨hg,hq⟩ y z s hs1 hy
  refine⟨by simp[hg],λj x s' hx hs'=>?_⟩
  have hx:(g.1++[y])[j]?=some x:=hx
  rcases Nat.lt_trichotomy j i with hj |hj |hj
  ·rw[List.getElem?_append_left (by omega)] at hx;exact hq j x s' hx hs'
  ·subst hj
   rw[List.getElem?_append_right (by omega),hg,Nat.sub_self] at hx
   have:y=x:=by simpa using hx
   rw[hs1] at hs'
   cases hs'
   rw[←this];exact hy
  ·rw[List.getElem?_eq_none (by simp;omega)] at hx;cases hx
 refine Ok.bind (Ok.forN (λi (g:List Int×Int)=>g.1.length=i/\∀(j:Nat) x s,g.1[j]?=some x->sizes[j]?=some s->0<=x/\x<s) ⟨rfl,λj x s h _=>by simp at h⟩ λi a g ha hg=>?_) (T:=λ(r:List Int)=>r.length=sizes.length/\∀(i:Nat) x s,r[i]?=some x->sizes[i]?=some s->0<=x/\x<s) λg ⟨hg,hq⟩=>?_
 ·obtain⟨rfl,hi⟩:=Qe ha
  have hsz:sizes[i]?=some sizes[i]:=by simp[hi]
  have hsp:=hs _ (List.getElem_mem hi)
  have hgl:g.1.length<sizeLine:=HL (by have:=hg.1;omega)
  by_cases hc:c<10^(18:Int).toNat
  ·rw[decide_eq_true hc,if_pos rfl]
   obtain⟨y,ey,hy⟩:=Ej c (k:=(i:Int)) (by omega) (by omega)
   rw[ey,show noE (Rs.ok y)= .ok y from rfl,Rs.ok_bind,YA hsz,Rs.ok_bind,XN hsp.1,Rs.ok_bind,Xv hgl]
   exact⟨_,rfl,key i _ g ha hg _ _ _ hsz ⟨Int.emod_nonneg _ (by omega),Int.emod_lt_of_pos _ hsp.1⟩⟩
  ·rw[decide_eq_false hc,if_neg Bool.false_ne_true]
   by_cases hq:0<g.2
   ·rw[decide_eq_true hq,if_pos rfl,YA hsz,Rs.ok_bind,XN hsp.1,Rs.ok_bind,Xv hgl]
    simp only[Rs.okb]
    rw[Ka hsp.1 hsp.2]
    exact⟨_,rfl,key i _ g ha hg _ _ _ hsz ⟨Int.emod_nonneg _ (by omega),Int.emod_lt_of_pos _ hsp.1⟩⟩
   ·rw[decide_eq_false hq,if_neg Bool.false_ne_true,XN (by decide),Rs.ok_bind]
    obtain⟨c2,ec2⟩:=Cu ns (p:=(p+1+(i:Int)) % 63) (Int.emod_nonneg _ (by decide))
    obtain⟨y,ey,hy⟩:=Ej c2 (k:=(i:Int)) (by omega) (by omega)
    rw[ec2,show noE (Rs.ok c2)= .ok c2 from rfl,Rs.ok_bind,ey,show noE (Rs.ok y)= .ok y from rfl,Rs.ok_bind,YA hsz,Rs.ok_bind,XN hsp.1,Rs.ok_bind,Xv hgl]
    exact⟨_,rfl,key i _ g ha hg _ _ _ hsz ⟨Int.emod_nonneg _ (by omega),Int.emod_lt_of_pos _ hsp.1⟩⟩
 ·rw[Qj] at hg
  exact⟨g.1,rfl,hg,hq⟩
theorem Zc {α:Type}{r:List α}{k:Int}{n:Nat}(e:k=(n:Int))(h:n<r.length):atR r k= .ok r[n]:=by
 subst e;exact YA (by simp[h])
theorem GA {γ:Type}{c:γ->Rs Bool}{f:γ->Rs γ}(P:γ->Prop)(μ:γ->Nat)(hs:∀g,P g->∃b,c g= .ok b/\(b=true->Ok (f g) λg'=>P g'/\μ g'<μ g)):∀(n:Nat) (g:γ),P g->μ g<n->Ok (ZV n g c f) λg'=>P g'/\c g'= .ok false
 |0,_,_,h=>by omega
 |n+1,g,hp,hm=>by
  obtain⟨b,hb,h⟩:=hs g hp
  show Ok ((c g).bind _) _
  rw[hb,Rs.okb]
  cases b with
  |false=>rw[if_neg Bool.false_ne_true];exact⟨g,rfl,hp,hb⟩
  |true=>
   rw[if_pos rfl]
   exact Ok.bind (h rfl) λg' h'=>GA P μ hs n g' h'.1 (by omega)
end My
namespace My
noncomputable def X3 (w:List Int):Nat:=(w.filter λx=>decide (x<0)).length
noncomputable def ZA (w:List Int):Nat:=max (X3 w) 1
noncomputable def Zr (w:List Int)(first:Int):List Int:=(List.range (max w.length 1)).map λk=>first+(X3 (w.take k):Int) % (ZA w:Int)
noncomputable def YC:List (List Int)->Int->List (List Int)
 | [],_=>[]
 |w::ws,f=>Zr w f::YC ws (f+ZA w)
noncomputable def Xt (ws:List (List Int)):Int:=(ws.map λw=>(ZA w:Int)).sum
noncomputable def G6 (ws:List (List Int)):Nat:=(ws.filter λw=>decide (X3 w=0)).length
theorem ZB (a b:List Int):X3 (a++b)=X3 a+X3 b:=by unfold X3;rw[List.filter_append,List.length_append]
theorem JW {x:Int}(h:x<0):X3 [x]=1:=by simp[X3,h]
theorem JT {x:Int}(h:¬x<0):X3 [x]=0:=by simp[X3,h]
theorem VH {w:List Int}{i:Nat}{x:Int}(h:w[i]?=some x):X3 (w.take (i+1))=X3 (w.take i)+X3 [x]:=by
 rw[List.take_add_one,h,ZB];rfl
theorem VF (w:List Int):X3 w<=w.length:=List.length_filter_le _ _
theorem Uk (w:List Int):0<ZA w:=by unfold ZA;omega
theorem Z4 (w:List Int)(f:Int):(Zr w f).length=max w.length 1:=by simp[Zr]
theorem V0 (w:List Int)(f:Int){k:Nat}(h:k<max w.length 1):(Zr w f)[k]?=some (f+(X3 (w.take k):Int) % (ZA w:Int)):=by
 unfold Zr
 rw[List.getElem?_map,List.getElem?_range h];rfl
theorem YN:∀(ws:List (List Int)) (f:Int),(YC ws f).length=ws.length
 | [],_=>rfl
 |_::ws,f=>by show(YC ws _).length+1=_;rw[YN ws];rfl
theorem Y2 (w:List Int)(ws:List (List Int)):Xt (w::ws)=ZA w+Xt ws:=by simp[Xt]
theorem Jv (a b:List (List Int)):Xt (a++b)=Xt a+Xt b:=by simp[Xt,List.sum_append]
theorem G4 (w:List Int):Xt [w]=ZA w:=by simp[Xt]
theorem Jr:∀(a b:List (List Int)) (f:Int),YC (a++b) f=YC a f++YC b (f+Xt a)
 | [],b,f=>by simp[YC,Xt]
 |w::a,b,f=>by
  show Zr w f::YC (a++b) (f+ZA w)=Zr w f::(YC a (f+ZA w)++YC b (f+Xt (w::a)))
  rw[Jr a b,Y2,Int.add_assoc]
theorem J9 {ws:List (List Int)}{i:Nat}{w:List Int}(h:ws[i]?=some w)(f:Int):YC (ws.take (i+1)) f=YC (ws.take i) f++[Zr w (f+Xt (ws.take i))]:=by
 rw[List.take_add_one,h,Jr];rfl
theorem QM {ws:List (List Int)}{i:Nat}{w:List Int}(h:ws[i]?=some w):Xt (ws.take (i+1))=Xt (ws.take i)+ZA w:=by
 rw[List.take_add_one,h,Jv]
 show _+Xt [w]=_
 rw[G4]
theorem Qs {ws:List (List Int)}{i:Nat}{w:List Int}(h:ws[i]?=some w)(f:Int):(YC ws f)[i]?=some (Zr w (f+Xt (ws.take i))):=by
 have hl:i<ws.length:=(List.getElem?_eq_some_iff.mp h).1
 have e:ws=ws.take (i+1)++ws.drop (i+1):=(List.take_append_drop _ _).symm
 rw[e,Jr,J9 h,List.getElem?_append_left (by rw[List.length_append,YN,List.length_take];simp;omega),
  List.getElem?_append_right (by rw[YN,List.length_take];omega),YN,List.length_take,Nat.min_eq_left (by omega),Nat.sub_self,List.take_append_of_le_length (by rw[List.length_take];omega),List.take_take,Nat.min_eq_left (by omega)]
 rfl
theorem JF:∀ws:List (List Int),Xt ws=(X3 ws.flatten:Int)+(G6 ws:Int)
 | []=>rfl
 |w::ws=>by
  rw[Y2,JF ws,List.flatten_cons,ZB]
  unfold G6
  rw[List.filter_cons]
  by_cases h:X3 w=0
  ·simp[h,ZA];omega
  ·simp[h,ZA];omega
theorem DJ {a b:List Int}(h:a.Perm b):X3 a=X3 b:=(h.filter _).length_eq
theorem Df:∀{xs:List Int},(∀x∈xs,1<=x)->X3 (xs.flatMap λx=>[x,-x])=xs.length
 | [],_=>rfl
 |x::xs,h=>by
  have hx:=h x List.mem_cons_self
  rw[List.flatMap_cons,ZB,Df λy hy=>h y (List.mem_cons_of_mem _ hy)]
  have e:X3 [x,-x]=1:=by
   show X3 ([x]++[-x])=1
   rw[ZB,JT (by omega),JW (by omega)]
  rw[e,List.length_cons];omega
structure LastIs (w:List Int)(i:Nat)(last:Int):Prop where
 lo: -1<=last
 hi:last<(i:Int)
 none:∀j:Nat,last<(j:Int)->j<i->∀x,w[j]?=some x->¬x<0
 at':0<=last->∃x,w[last.toNat]?=some x/\x<0
theorem LastIs.zero (w:List Int):LastIs w 0 (-1):=⟨by omega,by omega,λj _ h=>by omega,λh=>by omega⟩
theorem LastIs.neg {w:List Int}{i:Nat}{x:Int}(e:w[i]?=some x)(hx:x<0):LastIs w (i+1) (i:Int):=
 ⟨by omega,by omega,λj h1 h2=>by omega,λ_=>⟨x,by simpa using e,hx⟩⟩
theorem LastIs.pos {w:List Int}{i:Nat}{x last:Int}(h:LastIs w i last)(e:w[i]?=some x)(hx:¬x<0):LastIs w (i+1) last:=by
 have:=h.hi
 refine⟨h.lo,by omega,λj h1 h2 y hy=>?_,h.at'⟩
 by_cases hj:j=i
 ·subst hj;rw[e] at hy;cases hy;exact hx
 ·exact h.none j h1 (by omega) y hy
end My
namespace My
structure Spot (ws:List (List Int))(x:Int)(i j:Nat)(w:List Int):Prop where
 wi:ws[i]?=some w
 xj:w[j]?=some x
 first:∀m:Nat,m<j->w[m]?≠some x
 none:∀(i':Nat) (w':List Int),i'<i->ws[i']?=some w'->x∉w'
theorem Spot.uniq {ws:List (List Int)}{x:Int}{i j i' j':Nat}{w w':List Int}(h:Spot ws x i j w)(h':Spot ws x i' j' w'):i=i'/\j=j'/\w=w':=by
 have hi:i=i':=by
  rcases Nat.lt_trichotomy i i' with c |c |c
  ·exact absurd (List.mem_of_getElem? h.xj) (h'.none i w c h.wi)
  ·exact c
  ·exact absurd (List.mem_of_getElem? h'.xj) (h.none i' w' c h'.wi)
 subst hi
 have hw:w=w':=Option.some.inj (h.wi.symm.trans h'.wi)
 subst hw
 refine⟨rfl,?_,rfl⟩
 rcases Nat.lt_trichotomy j j' with c |c |c
 ·exact absurd h.xj (h'.first j c)
 ·exact c
 ·exact absurd h'.xj (h.first j' c)
theorem Spot.row {ws:List (List Int)}{x:Int}{i j:Nat}{w:List Int}(h:Spot ws x i j w):∃r,(YC ws 0)[i]?=some r/\r.length=w.length/\j<w.length:=by
 have hj:=(List.getElem?_eq_some_iff.mp h.xj).1
 exact⟨_,Qs h.wi 0,by rw[Z4];omega,hj⟩
noncomputable def FZ (ws:List (List Int))(e:Int×Int)(v:List Int):Prop:=∃ (i j k l:Nat) (w w' r r':List Int) (o a b:Int),Spot ws e.1 i j w/\Spot ws (-e.1) k l w'/\(YC ws 0)[i]?=some r/\r[j]?=some o/\(YC ws 0)[k]?=some r'/\r'[l]?=some a/\r'[(l+1) % w'.length]?=some b/\v=[e.1,e.2,o,a,b]
theorem FZ.uniq {ws:List (List Int)}{e:Int×Int}{v v':List Int}(h:FZ ws e v)(h':FZ ws e v'):v=v':=by
 obtain⟨i,j,k,l,w,w',r,r',o,a,b,s1,s2,h1,h2,h3,h4,h5,rfl⟩:=h
 obtain⟨i2,j2,k2,l2,x,x',q,q',o2,a2,b2,t1,t2,g1,g2,g3,g4,g5,rfl⟩:=h'
 obtain⟨rfl,rfl,rfl⟩:=s1.uniq t1
 obtain⟨rfl,rfl,rfl⟩:=s2.uniq t2
 rw[h1] at g1;cases g1
 rw[h3] at g3;cases g3
 rw[h2] at g2;cases g2
 rw[h4] at g4;cases g4
 rw[h5] at g5;cases g5
 rfl
theorem GH:∀{w:List Int}{x:Int},x∈w->∃j:Nat,w[j]?=some x/\∀m:Nat,m<j->w[m]?≠some x
 | [],x,h=>by simp at h
 |y::t,x,h=>by
  by_cases e:y=x
  ·subst e
   exact⟨0,rfl,λm hm=>by omega⟩
  ·rcases List.mem_cons.mp h with z |z
   ·exact absurd z.symm e
   ·obtain⟨j,h1,h2⟩:=GH z
    refine⟨j+1,by simpa using h1,λm hm=>?_⟩
    cases m with
    |zero=>simpa using e
    |succ m=>simpa using h2 m (by omega)
end My
namespace My
open PySem L2
section
variable {α β γ ρ:Type}
theorem UO {f:γ->α->Rs (Ctl ρ γ)}{g:γ}{v:ρ}:∀{as:List α}{i:Nat}{a:α},as[i]?=some a->(∀(k:Nat) b,k<i->as[k]?=some b->f g b= .ok (.nx g))->f g a= .ok (.ret v)->forC as g f= .ok (.ret v)
 | [],i,a,h,_,_=>by simp at h
 |b::as,0,a,h,_,hf=>by
  have:b=a:=by simpa using h
  subst this
  show(f g b).bind _=_
  rw[hf,Rs.okb]
 |b::as,i+1,a,h,hb,hf=>by
  show(f g b).bind _=_
  rw[hb 0 b (by omega) rfl,Rs.okb]
  exact UO (i:=i) (by simpa using h) (λk c hk hc=>hb (k+1) c (by omega) (by simpa using hc)) hf
theorem Bk {as:List α}{i:Nat}{a:α}(h:as[i]?=some a):(Je as)[i]?=some ((i:Int),a):=by
 have hi:=(List.getElem?_eq_some_iff.mp h).1
 unfold Je
 rw[List.getElem?_zip_eq_some]
 exact⟨by rw[List.getElem?_map,List.getElem?_range hi];rfl,h⟩
theorem DU {w:List Int}{x:Int}{j:Nat}(h:w[j]?=some x)(hf:∀m:Nat,m<j->w[m]?≠some x):Ea w x= .ok (j:Int):=by
 obtain⟨hj,e⟩:=List.getElem?_eq_some_iff.mp h
 have:w.findIdx? (λb=>decide (b=x))=some j:=by
  rw[List.findIdx?_eq_some_iff_getElem]
  refine⟨hj,by simp[e],λm hm=>?_⟩
  have hml:m<w.length:=by omega
  have:=hf m hm
  rw[List.getElem?_eq_getElem hml] at this
  simpa using this
 unfold Ea
 rw[this]
theorem Vr {N k:Nat}{F G:Nat->α}{v:α}(hk:k<N)(hv:G k=v)(h:∀j,j<N->j≠k->F j=G j):((List.range N).map F).set k v=(List.range N).map G:=by
 refine List.ext_getElem (by simp) λj h1 h2=>?_
 have hj:j<N:=by simpa using h1
 rw[List.getElem_set]
 by_cases e:k=j
 ·subst e;rw[if_pos rfl];simp[hv]
 ·rw[if_neg e];simp[h j hj (λz=>e z.symm)]
theorem BX (w:List α):Ue w none (some (-1))=w.take (w.length-1):=by
 unfold Ue
 rw[HT.sIx_none]
 have:HT.sIx w.length w.length (some (-1))=w.length-1:=by
  unfold HT.sIx
  simp
  omega
 rw[this];simp
end
theorem Zl {w:List Int}(hl:w.length<=1000):XC w= .ok (ZA w:Int):=by
 unfold XC
 simp only[Rs.okb]
 rw[K9 (p:=λx=>decide (x<0)) (h:=λx=>x) (sz (by omega)) (λ_ _=>rfl) λ_ _ _=>rfl,Rs.okb,List.map_id']
 congr 1
 show max ((X3 w:Nat):Int) 1=((max (X3 w) 1:Nat):Int)
 omega
theorem VD {w:List Int}{f:Int}(hl:w.length<=1000):Yi w f= .ok (Zr w f):=by
 unfold Yi
 simp only[Rs.okb]
 rw[Zl hl,XB]
 simp only[Rs.okb]
 rw[Xv (sz (by simp)),BX]
 simp only[Rs.okb]
 apply Ok.eq
 refine Ok.bind (Ok.forN (λi (g:Int×List Int)=>g=((X3 (w.take i):Int),(List.range (i+1)).map λk=>f+(X3 (w.take k):Int) % (ZA w:Int))) ?_ λi a g ha hg=>?_) λg hg=>?_
 ·simp[X3]
 ·have hi:=(List.getElem?_eq_some_iff.mp ha).1
  rw[List.length_take] at hi
  have ha':w[i]?=some a:=by
   rw[List.getElem?_take_of_lt (by omega)] at ha
   exact ha
  subst hg
  have hn:=VH ha'
  have hp:=Uk w
  have hlen:((List.range (i+1)).map λk=>f+(X3 (w.take k):Int) % (ZA w:Int)).length<sizeLine:=HL (by simp;omega)
  refine Ok.bind (R:=λu=>u=(X3 (w.take (i+1)):Int)) (Ok.ite (λc=>⟨_,rfl,?_⟩) λc=>⟨_,rfl,?_⟩) λu hu=>?_
  ·rw[hn,JW (of_decide_eq_true c)]
   show(X3 (w.take i):Int)+1=_
   omega
  ·rw[hn,JT (of_decide_eq_false c)]
   show(X3 (w.take i):Int)=_
   omega
  ·subst hu
   rw[XN (by omega),Rs.okb,Rs.okb,Xv hlen]
   refine⟨_,rfl,?_⟩
   rw[List.range_succ (n:=i+1),List.map_append];rfl
 ·subst hg
  refine⟨_,rfl,?_⟩
  rw[List.length_take,show min (w.length-1) w.length+1=max w.length 1 by omega]
  rfl
theorem Dw {D:List (List Int)×List (Int×Int)}(hd:D.1.length<=1000)(hw:∀w∈D.1,w.length<=1000):VO D= .ok (YC D.1 0):=by
 unfold VO
 simp only[Rs.okb]
 apply Ok.eq
 refine Ok.bind (Ok.forN (λi (g:Int×List (List Int))=>g=(Xt (D.1.take i),YC (D.1.take i) 0)) rfl λi a g ha hg=>?_) λg hg=>?_
 ·have hi:=(List.getElem?_eq_some_iff.mp ha).1
  subst hg
  have hal:=hw a (List.mem_of_getElem? ha)
  rw[VD hal,XB,Rs.okb,Zl hal,XB]
  rw[Xv (HL (by rw[YN,List.length_take];omega))]
  simp only[Rs.okb]
  refine⟨_,rfl,?_⟩
  rw[J9 ha,QM ha,Int.zero_add]
 ·subst hg
  rw[List.take_length]
  exact⟨_,rfl,rfl⟩
theorem JB {D:List (List Int)×List (Int×Int)}(hd:D.1.length<=1000)(hw:∀w∈D.1,w.length<=1000):Ys D= .ok (Xt D.1):=by
 unfold Ys
 simp only[Rs.okb]
 rw[ZN (h:=λw=>(ZA w:Int)) (sz (by omega)) λw h=>by rw[Zl (hw w h),XB],Rs.okb]
 rfl
theorem UM {D:List (List Int)×List (Int×Int)}{x:Int}{i j:Nat}{w:List Int}(h:Spot D.1 x i j w):Vy D x= .ok ((i:Int),(j:Int)):=by
 unfold Vy
 simp only[Rs.okb]
 rw[UO (v:=((i:Int),(j:Int))) (Bk h.wi) (λk b hk hb=>?_) ?_]
 ·rw[Rs.okb,Do]
 ·rw[if_pos (decide_eq_true (List.mem_of_getElem? h.xj)),DU h.xj h.first]
  simp only[Rs.okb]
 ·obtain⟨_,h2⟩:=VE hb
  rw[if_neg]
  rw[decide_eq_true_eq]
  exact h.none k b.2 hk h2
theorem Vh:∀{ws:List (List Int)}{x:Int},x∈ws.flatten->∃i j w,Spot ws x i j w
 | [],x,h=>by simp at h
 |w::ws,x,h=>by
  by_cases c:x∈w
  ·obtain⟨j,h1,h2⟩:=GH c
   exact⟨0,j,w,rfl,h1,h2,λi' w' hi _=>by omega⟩
  ·have hx:x∈ws.flatten:=by
    rw[List.flatten_cons,List.mem_append] at h
    exact h.resolve_left c
   obtain⟨i,j,v,s⟩:=Vh hx
   refine⟨i+1,j,v,by simpa using s.wi,s.xj,s.first,λi' w' hi hw=>?_⟩
   cases i' with
   |zero=>
    have:w=w':=by simpa using hw
    exact this▸c
   |succ i'=>exact s.none i' w' (by omega) (by simpa using hw)
theorem Ql (ws:List (List Int)):0<=Xt ws:=by
 induction ws with
 |nil=>exact Int.le_refl _
 |cons w ws ih=>rw[Y2];omega
theorem Ci {ws:List (List Int)}{i j:Nat}{w r:List Int}{o:Int}(hw:ws[i]?=some w)(hr:(YC ws 0)[i]?=some r)(ho:r[j]?=some o):0<=o/\o<Xt ws:=by
 rw[Qs hw] at hr
 cases hr
 have hj:=(List.getElem?_eq_some_iff.mp ho).1
 rw[Z4] at hj
 rw[V0 w _ hj] at ho
 have ho':=Option.some.inj ho
 have hp:=Uk w
 have m0:=Int.emod_nonneg (X3 (w.take j):Int) (show(ZA w:Int)≠0 by omega)
 have m1:=Int.emod_lt_of_pos (X3 (w.take j):Int) (show(0:Int)<(ZA w:Int) by omega)
 have t0:=Ql (ws.take i)
 have t1:Xt ws=Xt (ws.take (i+1))+Xt (ws.drop (i+1)):=by rw[←Jv,List.take_append_drop]
 have t2:=Ql (ws.drop (i+1))
 rw[QM hw] at t1
 omega
structure DG (D:List (List Int)×List (Int×Int)):Prop where
 few:D.1.length<=1000
 short:∀w∈D.1,w.length<=1000
 le:D.2.length<=1000
 mem:∀e∈D.2,e.1∈D.1.flatten/\ -e.1∈D.1.flatten
 sg:∀e∈D.2,e.2=1∨e.2= -1
 count:Xt D.1=(D.2.length:Int)+(G6 D.1:Int)
noncomputable def MG (N:Int)(m:Int×Int×Int×Int×Int):Prop:=(m.2.1=1∨m.2.1= -1)/\(0<=m.2.2.1/\m.2.2.1<N)/\(0<=m.2.2.2.1/\m.2.2.2.1<N)/\(0<=m.2.2.2.2/\m.2.2.2.2<N)
theorem Fz {D:List (List Int)×List (Int×Int)}(h:DG D):∃ms,Zn D= .ok ms/\ms.length=D.2.length/\∀m∈ms,MG (Xt D.1) m:=by
 have key:∀e:Int×Int,∃v:Int×Int×Int×Int×Int,e∈D.2->∃(i j k l:Nat) (w w' r r':List Int),Spot D.1 e.1 i j w/\Spot D.1 (-e.1) k l w'/\(YC D.1 0)[i]?=some r/\r[j]?=some v.2.2.1/\(YC D.1 0)[k]?=some r'/\r'.length=w'.length/\0<w'.length/\r'[l]?=some v.2.2.2.1/\r'[(l+1) % w'.length]?=some v.2.2.2.2/\v.1=e.1/\v.2.1=e.2:=λe=>by
  by_cases he:e∈D.2
  ·obtain⟨i,j,w,s1⟩:=Vh (h.mem e he).1
   obtain⟨k,l,w',s2⟩:=Vh (h.mem e he).2
   obtain⟨r,hr,hrl,hj⟩:=s1.row
   obtain⟨r',hr',hrl',hl⟩:=s2.row
   have hm:(l+1) % w'.length<r'.length:=by rw[hrl'];exact Nat.mod_lt _ (by omega)
   exact⟨(e.1,e.2,r[j],r'[l],r'[(l+1) % w'.length]),λ_=>⟨i,j,k,l,w,w',r,r',s1,s2,hr,by simp,hr',hrl',by omega,by simp,by simp,rfl,rfl⟩⟩
  ·exact⟨(0,0,0,0,0),λz=>absurd z he⟩
 obtain⟨v,hv⟩:=Classical.axiomOfChoice key
 refine⟨D.2.map v,?_,by simp,λm hm=>?_⟩
 ·unfold Zn
  simp only[Rs.okb]
  rw[Dw h.few h.short,XB]
  simp only[Rs.okb]
  rw[Qi (h:=v) (sz (by have:=h.le;simp;omega)) λg hg e he=>?_]
  ·rw[Rs.okb,List.nil_append]
  ·obtain⟨i,j,k,l,w,w',r,r',s1,s2,h1,h2,h3,h4,h5,h6,h7,h8,h9⟩:=hv e he
   have hm:((l:Int)+1) % (r'.length:Int)=(((l+1) % w'.length:Nat):Int):=by rw[h4,Int.natCast_emod];rfl
   rw[UM s1,UM s2,XB,XB]
   simp only[Rs.okb]
   rw[YA h1,YA h3]
   simp only[Rs.okb]
   rw[YA h2,YA h6]
   simp only[Rs.okb]
   rw[XN (by omega),hm]
   simp only[Rs.okb]
   rw[YA h7]
   simp only[Rs.okb]
   rw[Xv hg]
   congr 2
   rw[←h8, ←h9]
 ·obtain⟨e,he,rfl⟩:=List.mem_map.mp hm
  obtain⟨i,j,k,l,w,w',r,r',s1,s2,h1,h2,h3,h4,h5,h6,h7,h8,h9⟩:=hv e he
  exact⟨by rw[h9];exact h.sg e he,Ci s1.wi h1 h2,Ci s2.wi h3 h6,Ci s2.wi h3 h7⟩
theorem MF (f:Int)(n:Nat):(List.replicate n [f]).flatten=(List.range n).map λ_=>f:=by
 induction n with
 |zero=>rfl
 |succ n ih=>rw[List.replicate_succ,List.flatten_cons,ih,List.range_succ_eq_map,List.map_cons,List.map_map];rfl
theorem BS (ws:List (List Int)):G6 ws<=ws.length:=by
 unfold G6
 exact List.length_filter_le ..
noncomputable def Za (m:Int×Int×Int×Int×Int):Int×Int×Int:=if m.2.1=1 then(m.2.2.2.1,m.2.2.1,m.2.2.2.2) else(m.2.2.2.2,m.2.2.1,m.2.2.2.1)
theorem E4 {D:List (List Int)×List (Int×Int)}{ms:List (Int×Int×Int×Int×Int)}(h:Zn D= .ok ms)(hl:ms.length<=1000):VY D= .ok (ms.map Za):=by
 unfold VY
 simp only[Rs.okb]
 rw[h,XB]
 simp only[Rs.okb]
 rw[Qi (h:=Za) (sz (by simp;omega)) λg hg e he=>?_]
 ·rw[Rs.okb,List.nil_append]
 ·unfold Za
  by_cases s:e.2.1=1
  ·rw[if_pos (decide_eq_true s),if_pos s]
   simp only[Rs.okb]
   exact Xv hg
  ·rw[if_neg (by rw[decide_eq_true_eq];exact s),if_neg s]
   simp only[Rs.okb]
   exact Xv hg
theorem Dj {α:Type}{as:List α}{i:Int}(h0:0<=i)(h:i<(as.length:Int)):∃x,atR as i= .ok x/\x∈as:=
 ⟨as[i.toNat]'(by omega),Zc (by omega) (by omega),List.getElem_mem _⟩
theorem Dt {γ ρ:Type}{c:γ->Rs Bool}{f:γ->Rs (Ctl ρ γ)}(P:γ->Prop)(μ:γ->Nat)(hs:∀g,P g->∃b,c g= .ok b/\(b=true->∃g',f g= .ok (.nx g')/\P g'/\μ g'<μ g))(n:Nat):∀g:γ,P g->μ g<n->∃g',JA n g c f= .ok (.nx g'):=by
 induction n with
 |zero=>intro g _ h;omega
 |succ n ih=>
  intro g hp h
  obtain⟨b,eb,hb⟩:=hs g hp
  rw[JA,eb,Rs.okb]
  cases b with
  |false=>exact⟨g,rfl⟩
  |true=>
   obtain⟨g',e,p',l⟩:=hb rfl
   rw[if_pos rfl,e,Rs.okb]
   exact ih g' p' (by omega)
noncomputable def BJ (g:Int):Bool:=(((Q2 2 317).filter λa=>decide (a*a<=g)).map λa=>decide (0<g % a)).all id
theorem L0 {a:Int}:a∈Q2 2 317↔2<=a/\a<317:=by
 unfold Q2
 rw[List.mem_map]
 constructor
 ·rintro⟨i,hi,rfl⟩
  have:=List.mem_range.mp hi
  omega
 ·rintro⟨h1,h2⟩
  exact⟨(a-2).toNat,List.mem_range.mpr (by omega),by omega⟩
theorem Cj {g:Int}(h:BJ g=true){a:Int}(h1:2<=a)(h2:a<317)(h3:a*a<=g):0<g % a:=by
 unfold BJ at h
 have:=List.all_eq_true.mp h _ (List.mem_map.mpr ⟨a,List.mem_filter.mpr ⟨L0.mpr ⟨h1,h2⟩,decide_eq_true h3⟩,rfl⟩)
 exact of_decide_eq_true this
noncomputable def PP (p:Int):Prop:=2<=p/\p<=99991/\BJ p=true
theorem K7 {p:Int}(h:PP p):Zf p= .ok true:=by
 obtain⟨h1,h2,h3⟩:=h
 unfold Zf
 simp only[Rs.okb]
 rw[decide_eq_false (show ¬p<2 by omega),decide_eq_false (show ¬100000<p by omega),show orR (Rs.ok false) (Rs.ok false)= .ok false from rfl,Rs.okb,if_neg (by decide)]
 obtain⟨g,e⟩:=Dt (c:=λg10:Int=>(Rs.bind (QE g10 g10) λx14=>Rs.ok (decide (x14<=p)))) (f:=λg10:Int=>Rs.bind (Rs.bind (Zy p g10) λx18=>Rs.ok (decide (x18=(0:Int)))) λx20=>(if x20=true then Rs.ok (Ctl.ret false) else((λ(a23:Int)=>Rs.ok (Ctl.nx a23)) (g10+(1:Int))))) (λg:Int=>2<=g/\g<=317) (λg=>(p+2-g).toNat) (λg hg=>by
  obtain⟨g2,g3⟩:=hg
  refine⟨decide (g*g<=p),by rw[Yv (by omega) (by omega),Rs.okb],λc=>?_⟩
  have c:g*g<=p:=of_decide_eq_true c
  have c1:g≠317:=λz=>by subst z;omega
  have c2:2*g<=g*g:=Int.mul_le_mul_of_nonneg_right g2 (by omega)
  have c3:=Cj h3 g2 (by omega) c
  refine⟨g+1,?_,⟨by omega,by omega⟩,by omega⟩
  rw[XN (by omega),Rs.okb,Rs.okb,decide_eq_false (by omega),if_neg (by decide)]) (p.natAbs+2) 2 ⟨by decide,by decide⟩ (by omega)
 rw[e,Rs.okb,BL]
theorem Bm {r:List Int}(hl:3<=r.length)(v0:(0:Int)<=r[0]/\r[0]<10)(v1:(0:Int)<=r[1]/\r[1]<99990)(v2:(0:Int)<=r[2]/\r[2]<5):Ok (Jm r) λa=>PP a.1/\¬a.2 % a.1=0:=by
 unfold Jm
 simp only[Rs.okb]
 rw[Xv (sz (by decide)),Rs.okb,Zc (r:=r) (k:=0) (n:=0) rfl (by omega),Zc (r:=r) (k:=1) (n:=1) rfl (by omega),Zc (r:=r) (k:=2) (n:=2) rfl (by omega)]
 simp only[Rs.okb]
 obtain⟨p,ep,hp⟩:=Dj (as:=[(2:Int),3,5,7,11,13,23,97,65537,99991]) v0.1 v0.2
 have hp:PP p:=by
  have hd:∀x∈[(2:Int),3,5,7,11,13,23,97,65537,99991],2<=x/\x<=99991/\BJ x=true:=by decide+kernel
  exact hd p hp
 rw[ep,Rs.okb,Gs (by decide) (by decide) (by decide) (by decide)]
 simp only[Rs.okb]
 obtain⟨h1,h2,h3⟩:=hp
 rw[XN (by omega),Xv (sz (by simp))]
 simp only[Rs.okb]
 obtain⟨z,ez,_⟩:=Dj (as:=[0,0,-3,1,(10:Int)^(50:Int).toNat]) v2.1 v2.2
 rw[ez,Rs.okb,Yv (by omega) (by omega),Rs.okb,Rs.okb]
 refine⟨_,rfl,⟨h1,h2,h3⟩,?_⟩
 show ¬(1+r[1] % max 1 (p-1)+p*z) % p=0
 have m0:=Int.emod_nonneg r[1] (show max 1 (p-1)≠0 by omega)
 have m1:=Int.emod_lt_of_pos r[1] (show 0<max 1 (p-1) by omega)
 rw[Int.add_mul_emod_self_left,Int.emod_eq_of_lt (by omega) (by omega)]
 omega
theorem KR {K:Nat}{s:Int}{F:Nat->Int}(h0:0<=s)(h1:s<(K:Int)):atR ((List.range K).map F) s= .ok (F s.toNat):=by
 rw[Zc (n:=s.toNat) (by omega) (by simp;omega)]
 simp
theorem UI {K:Nat}{s v:Int}{F:Nat->Int}(h0:0<=s)(h1:s<(K:Int)):Vd ((List.range K).map F) s (F s.toNat+v)= .ok ((List.range K).map λi=>F i+if(i:Int)=s then v else 0):=by
 obtain⟨k,rfl⟩:∃k:Nat,s=k:=⟨s.toNat,by omega⟩
 rw[UH (by simp;omega),Int.toNat_natCast,Vr (G:=λi=>F i+if(i:Int)=(k:Int) then v else 0) (by omega) (by rw[if_pos rfl]) λj _ h=>?_]
 rw[if_neg (by omega),Int.add_zero]
theorem Bi {K:Nat}{s v:Int}{F:Nat->Int}(h0:0<=s)(h1:s<(K:Int)):Vd ((List.range K).map F) s (F s.toNat-v)= .ok ((List.range K).map λi=>F i+if(i:Int)=s then-v else 0):=by
 rw[Int.sub_eq_add_neg]
 exact UI h0 h1
noncomputable def cfT (f:Int)(t:Int×Int×Int)(i:Nat):Int:=0+(if(i:Int)=t.1 then f else 0)+(if(i:Int)=t.2.1 then 1-f else 0)+(if(i:Int)=t.2.2 then-1 else 0)
noncomputable def eqT (K:Nat)(p f:Int)(t:Int×Int×Int):List Int:=(List.range K).map λi=>cfT f t i % p
section
variable {D:List (List Int)×List (Int×Int)}{K:Nat}{p f:Int}{ms:List (Int×Int×Int×Int×Int)}
theorem Mn (h:K<=900):CC [(0:Int)] (K:Int)= .ok ((List.range K).map λ_=>0):=by
 unfold CC
 rw[Xv ⟨by omega,by omega,sz (by simp;omega)⟩,Int.toNat_natCast,MF]
theorem Ek {N:Int}{m:Int×Int×Int×Int×Int}(h:MG N m):(0<=(Za m).1/\(Za m).1<N)/\(0<=(Za m).2.1/\(Za m).2.1<N)/\(0<=(Za m).2.2/\(Za m).2.2<N):=by
 obtain⟨_,h1,h2,h3⟩:=h
 unfold Za
 by_cases c:m.2.1=1
 ·rw[if_pos c];exact⟨h2,h1,h3⟩
 ·rw[if_neg c];exact⟨h3,h1,h2⟩
theorem HH (hK:K<=900)(hp:0<p)(t:Int×Int×Int):UW ((List.range K).map λi=>cfT f t i) (λa46=>Zy a46 p)= .ok (eqT K p f t):=by
 rw[ZN (h:=λa=>a % p) (sz (by simp;omega)) λa _=>XN hp,List.map_map]
 rfl
theorem UR (h:DG D)(hK:Xt D.1=(K:Int))(hK2:K<=900)(hp:PP p)(hf:¬f % p=0)(e1:Zn D= .ok ms)(hl:ms.length<=1000)(hm:∀m∈ms,MG (K:Int) m):Y0 D p f= .ok ((ms.map Za).map (eqT K p f)):=by
 have hp0:0<p:=by have:=hp.1;omega
 unfold Y0
 simp only[Rs.okb]
 rw[show Yj p f= .ok () from by
  unfold Yj
  simp only[Rs.okb]
  rw[K7 hp,XB]
  simp only[Rs.okb]
  rw[if_neg (by decide),XN hp0,Rs.okb,Rs.okb,decide_eq_false hf,if_neg (by decide)]]
 rw[XB,Rs.okb,JB h.few h.short,hK,XB,Rs.okb,E4 e1 hl,XB,Rs.okb]
 rw[Qi (h:=eqT K p f) (sz (by simp;omega)) λg hg t ht=>?_]
 ·rw[Rs.okb,List.nil_append]
 ·obtain⟨m,hmm,rfl⟩:=List.mem_map.mp ht
  obtain⟨a,b,c⟩:=Ek (hm m hmm)
  have hmod:=HH (f:=f) hK2 hp0 (Za m)
  unfold cfT at hmod
  rw[Xv (sz (by simp)),Rs.okb,Mn hK2,Rs.okb,KR a.1 a.2,Rs.okb,UI (F:=λ_=>0) a.1 a.2,Rs.okb,KR b.1 b.2,Rs.okb,UI (F:=λi=>0+if(i:Int)=(Za m).1 then f else 0) b.1 b.2,Rs.okb,KR c.1 c.2,Rs.okb,Bi (F:=λi=>0+(if(i:Int)=(Za m).1 then f else 0)+if(i:Int)=(Za m).2.1 then 1-f else 0) c.1 c.2,Rs.okb,hmod,Rs.okb]
  exact Xv hg
theorem Di (L:List Nat)(F G:Nat->Int):(L.map λi=>F i+G i).sum=(L.map F).sum+(L.map G).sum:=by
 induction L with
 |nil=>rfl
 |cons a L ih=>simp only[List.map_cons,List.sum_cons,ih];omega
end
noncomputable def ch:Nat->Nat->Nat
 |_,0=>1
 |0,_+1=>0
 |n+1,k+1=>ch n k+ch n (k+1)
theorem UC (n:Nat):ch n 0=1:=by cases n<;> rfl
theorem Vw (n k:Nat):ch (n+1) (k+1)=ch n k+ch n (k+1):=rfl
theorem Bg:∀(n k:Nat),n<k->ch n k=0:=by
 intro n
 induction n with
 |zero=>intro k h;cases k with
  |zero=>omega
  |succ k=>rfl
 |succ n ih=>intro k h;cases k with
  |zero=>omega
  |succ k=>rw[Vw,ih k (by omega),ih (k+1) (by omega)]
theorem Ey (n:Nat):ch n n=1:=by
 induction n with
 |zero=>rfl
 |succ n ih=>rw[Vw,ih,Bg n (n+1) (by omega)]
theorem Fp:∀(n k:Nat),(k+1)*ch (n+1) (k+1)=(n+1)*ch n k:=by
 intro n
 induction n with
 |zero=>
  intro k
  cases k with
  |zero=>rfl
  |succ k=>rw[Bg 1 (k+2) (by omega),Bg 0 (k+1) (by omega)];omega
 |succ n ih=>
  intro k
  rw[Vw,Nat.mul_add,ih k]
  cases k with
  |zero=>rw[UC,UC];omega
  |succ j=>
   rw[Nat.succ_mul (j+1),ih j,Vw n j,Nat.mul_add (n+1+1),Nat.succ_mul (n+1),Nat.succ_mul (n+1)]
   omega
noncomputable def YK (f:Nat->Nat):Nat->Nat
 |0=>0
 |n+1=>YK f n+f n
theorem Jh (f:Nat->Nat)(n:Nat):YK f (n+1)=f 0+YK (λk=>f (k+1)) n:=by
 induction n with
 |zero=>show 0+f 0=f 0+0;omega
 |succ n ih=>
  show YK f (n+1)+f (n+1)=f 0+(YK (λk=>f (k+1)) n+f (n+1))
  rw[ih];omega
theorem KB {f g:Nat->Nat}:∀n,(∀k,k<n->f k=g k)->YK f n=YK g n:=by
 intro n
 induction n with
 |zero=>intro _;rfl
 |succ n ih=>
  intro h
  show YK f n+f n=YK g n+g n
  rw[ih λk hk=>h k (by omega),h n (by omega)]
theorem DY (f g:Nat->Nat)(n:Nat):YK (λk=>f k+g k) n=YK f n+YK g n:=by
 induction n with
 |zero=>rfl
 |succ n ih=>
  show YK (λk=>f k+g k) n+(f n+g n)=YK f n+f n+(YK g n+g n)
  rw[ih];omega
theorem F7 (c:Nat)(f:Nat->Nat)(n:Nat):YK (λk=>c*f k) n=c*YK f n:=by
 induction n with
 |zero=>rfl
 |succ n ih=>
  show YK (λk=>c*f k) n+c*f n=c*(YK f n+f n)
  rw[ih,Nat.mul_add]
theorem Md (a n:Nat):(a+1)^n=YK (λk=>ch n k*a^k) (n+1):=by
 induction n with
 |zero=>rfl
 |succ n ih=>
  have h1:YK (λk=>ch n k*a^k) (n+2)=YK (λk=>ch n k*a^k) (n+1):=by
   show YK (λk=>ch n k*a^k) (n+1)+ch n (n+1)*a^(n+1)=_
   rw[Bg n (n+1) (by omega),Nat.zero_mul,Nat.add_zero]
  rw[Jh] at h1
  rw[Jh]
  have h2:YK (λk=>ch (n+1) (k+1)*a^(k+1)) (n+1)=a*YK (λk=>ch n k*a^k) (n+1)+YK (λk=>ch n (k+1)*a^(k+1)) (n+1):=by
   rw[←F7, ←DY]
   refine KB _ λk _=>?_
   rw[Vw,Nat.add_mul]
   congr 1
   rw[Nat.pow_succ,Nat.mul_comm (a^k) a,Nat.mul_left_comm]
  rw[h2,Nat.pow_succ,ih,Nat.mul_add,Nat.mul_one,Nat.mul_comm _ a]
  simp only[UC,Nat.pow_zero,Nat.mul_one] at h1⊢
  omega
noncomputable def HQ (p:Nat):Prop:=2<=p/\∀d,d∣p->d=1∨d=p
theorem HQ.cop {p:Nat}(h:HQ p){k:Nat}(hk:¬p∣k):Nat.Coprime p k:=by
 rcases h.2 (Nat.gcd p k) (Nat.gcd_dvd_left p k) with e |e
 ·exact e
 ·exact absurd (e▸Nat.gcd_dvd_right p k) hk
theorem Lu {p:Nat}(h:HQ p){k:Nat}(h0:0<k)(h1:k<p):p∣ch p k:=by
 obtain⟨j,rfl⟩:∃j,k=j+1:=⟨k-1,by omega⟩
 obtain⟨q,rfl⟩:∃q,p=q+1:=⟨p-1,by omega⟩
 have e:=Fp q j
 have hd:(q+1)∣(j+1)*ch (q+1) (j+1):=⟨_,e⟩
 exact(h.cop (λz=>by have:=Nat.le_of_dvd (by omega) z;omega)).dvd_of_dvd_mul_left hd
theorem Du {p:Nat}{f:Nat->Nat}:∀n,(∀k,k<n->p∣f k)->p∣YK f n:=by
 intro n
 induction n with
 |zero=>intro _;exact Nat.dvd_zero p
 |succ n ih=>intro h;exact Nat.dvd_add (ih λk hk=>h k (by omega)) (h n (by omega))
theorem Ic {p:Nat}(h:HQ p)(a:Nat):a^p % p=a % p:=by
 induction a with
 |zero=>rw[Nat.zero_pow (by have:=h.1;omega)]
 |succ a ih=>
  obtain⟨q,rfl⟩:∃q,p=q+1:=⟨p-1,by have:=h.1;omega⟩
  rw[Md]
  have e:YK (λk=>ch (q+1) k*a^k) (q+1+1)=YK (λk=>ch (q+1) (k+1)*a^(k+1)) q+(1+a^(q+1)):=by
   show YK (λk=>ch (q+1) k*a^k) (q+1)+ch (q+1) (q+1)*a^(q+1)=_
   rw[Jh,UC,Ey,Nat.pow_zero];omega
  have hd:(q+1)∣YK (λk=>ch (q+1) (k+1)*a^(k+1)) q:=Du q λk hk=>Nat.dvd_mul_right_of_dvd (Lu h (by omega) (by omega)) _
  obtain⟨z,hz⟩:=hd
  rw[e,hz,Nat.mul_add_mod,Nat.add_mod,ih, ←Nat.add_mod,Nat.add_comm]
theorem Hw {p:Nat}(h:HQ p){a:Nat}(ha:¬p∣a):(a*a^(p-2)) % p=1:=by
 obtain⟨q,rfl⟩:∃q,p=q+2:=⟨p-2,by have:=h.1;omega⟩
 show a*a^q % (q+2)=1
 have hf:=Ic h a
 have hpos:0<a:=Nat.pos_of_ne_zero λz=>ha (by rw[z];exact Nat.dvd_zero _)
 have h1:1<=a^(q+1):=Nat.one_le_pow _ _ hpos
 have e:a^(q+2)=a*a^(q+1):=by rw[Nat.pow_succ,Nat.mul_comm]
 have hle:a<=a^(q+2):=by rw[e];exact Nat.le_mul_of_pos_right a h1
 have hd:(q+2)∣a^(q+2)-a:=Nat.dvd_of_mod_eq_zero (Nat.sub_mod_eq_zero_of_mod_eq hf)
 have e2:a^(q+2)-a=a*(a^(q+1)-1):=by rw[e,Nat.mul_sub,Nat.mul_one]
 rw[e2] at hd
 have hd2:=(h.cop ha).dvd_of_dvd_mul_left hd
 have e3:a*a^q=a^(q+1):=by rw[Nat.pow_succ,Nat.mul_comm]
 rw[e3]
 obtain⟨z,hz⟩:=hd2
 have:a^(q+1)=1+(q+2)*z:=by omega
 rw[this,Nat.add_mul_mod_self_left]
 exact Nat.mod_eq_of_lt (by omega)
noncomputable def Cg (p x y:Int):Prop:=p∣x-y
section
variable {p x y z u v:Int}
theorem Cg.refl (p x:Int):Cg p x x:=⟨0,by omega⟩
theorem Cg.of (h:x=y):Cg p x y:=h▸Cg.refl p x
theorem Cg.symm (h:Cg p x y):Cg p y x:=by
 obtain⟨c,h⟩:=h
 exact⟨-c,by rw[Int.mul_neg];omega⟩
theorem Cg.trans (h:Cg p x y)(g:Cg p y z):Cg p x z:=by
 obtain⟨c,h⟩:=h
 obtain⟨d,g⟩:=g
 exact⟨c+d,by rw[Int.mul_add];omega⟩
theorem Cg.add (h:Cg p x y)(g:Cg p u v):Cg p (x+u) (y+v):=by
 obtain⟨c,h⟩:=h
 obtain⟨d,g⟩:=g
 exact⟨c+d,by rw[Int.mul_add];omega⟩
theorem Cg.mul (h:Cg p x y)(g:Cg p u v):Cg p (x*u) (y*v):=by
 obtain⟨c,h⟩:=h
 obtain⟨d,g⟩:=g
 have e1:x=y+p*c:=by omega
 have e2:u=v+p*d:=by omega
 refine⟨c*u+y*d,?_⟩
 have:x*u=y*u+p*(c*u):=by rw[e1,Int.add_mul,Int.mul_assoc]
 rw[this,e2,Int.mul_add y,Int.mul_add p,Int.mul_left_comm y p d]
 omega
theorem Cg.sub (h:Cg p x y)(g:Cg p u v):Cg p (x-u) (y-v):=by
 obtain⟨c,h⟩:=h
 obtain⟨d,g⟩:=g
 exact⟨c-d,by rw[Int.mul_sub];omega⟩
theorem Cg.emod (p x:Int):Cg p (x % p) x:=⟨-(x/p),by rw[Int.emod_def,Int.mul_neg];omega⟩
theorem Cg.pow (h:Cg p x y)(n:Nat):Cg p (x^n) (y^n):=by
 induction n with
 |zero=>rw[Int.pow_zero,Int.pow_zero];exact Cg.refl ..
 |succ n ih=>rw[Int.pow_succ,Int.pow_succ];exact ih.mul h
theorem Cg.eq (h:Cg p x y)(h1:0<=x/\x<p)(h2:0<=y/\y<p):x=y:=by
 have e:(x-y) % p=0:=Int.emod_eq_zero_of_dvd h
 have:=Int.emod_emod_of_dvd
 have e2:x % p=y % p:=Int.emod_eq_emod_iff_emod_sub_eq_zero.mpr e
 rwa [Int.emod_eq_of_lt h1.1 h1.2,Int.emod_eq_of_lt h2.1 h2.2] at e2
theorem Cg.rest (h:Cg p x y)(h2:0<=y/\y<p):x % p=y:=by
 have e:(x-y) % p=0:=Int.emod_eq_zero_of_dvd h
 have e2:x % p=y % p:=Int.emod_eq_emod_iff_emod_sub_eq_zero.mpr e
 rwa [Int.emod_eq_of_lt h2.1 h2.2] at e2
end
theorem B1 (s:Int)(h:Nat):(s*s)^h=s^(2*h):=by
 induction h with
 |zero=>rw[Nat.mul_zero,Int.pow_zero,Int.pow_zero]
 |succ h ih=>rw[Int.pow_succ,ih,show 2*(h+1)=2*h+1+1 by omega,Int.pow_succ,Int.pow_succ,Int.mul_assoc]
theorem Hl {p:Int}(h:PP p):HQ p.toNat:=by
 obtain⟨h1,h2,h3⟩:=h
 obtain⟨n,rfl⟩:∃n:Nat,p=n:=⟨p.toNat,by omega⟩
 rw[Int.toNat_natCast]
 have key:∀d e:Nat,n=d*e->d<=e->2<=d->False:=λd e he hle hd=>by
  have hdd:d*d<=n:=by rw[he];exact Nat.mul_le_mul_left d hle
  have h317:d<317:=by
   rcases Nat.lt_or_ge d 317 with h |h
   ·exact h
   ·have:=Nat.mul_le_mul h h
    omega
  have hg:=Cj h3 (a:=(d:Int)) (by omega) (by omega) (by
   have:((d*d:Nat):Int)<=(n:Int):=by omega
   rwa [Int.natCast_mul] at this)
  have:(n:Int) % (d:Int)=0:=Int.emod_eq_zero_of_dvd ⟨(e:Int),by rw[he,Int.natCast_mul]⟩
  omega
 refine⟨by omega,λd r9=>?_⟩
 obtain⟨e,he⟩:=r9
 rcases Nat.le_total d e with hle |hle
 ·rcases(by omega:d=0∨d=1∨2<=d) with hd |hd |hd
  ·rw[hd,Nat.zero_mul] at he;omega
  ·exact .inl hd
  ·exact(key d e he hle hd).elim
 ·rcases(by omega:e=0∨e=1∨2<=e) with hd |hd |hd
  ·rw[hd,Nat.mul_zero] at he;omega
  ·rw[hd,Nat.mul_one] at he;exact .inr he.symm
  ·exact(key e d (by rw[he,Nat.mul_comm]) hle hd).elim
theorem GQ {γ:Type}{c:γ->Rs Bool}{f:γ->Rs γ}(P:γ->Prop)(μ:γ->Nat)(hs:∀g,P g->c g= .ok (decide (0<μ g))/\(0<μ g->Ok (f g) λg'=>P g'/\μ g'=μ g/2)):∀(n:Nat) (g:γ),P g->μ g<2^n->Ok (ZV (n+1) g c f) λg'=>P g'/\μ g'=0:=by
 intro n
 induction n with
 |zero=>
  intro g hp hl
  have h0:μ g=0:=by rw[Nat.pow_zero] at hl;omega
  rw[ZV,(hs g hp).1,h0]
  exact⟨g,rfl,hp,h0⟩
 |succ n ih=>
  intro g hp hl
  rw[ZV,(hs g hp).1,Rs.okb]
  by_cases h:0<μ g
  ·rw[if_pos (decide_eq_true h)]
   refine Ok.bind ((hs g hp).2 h) λg' hg=>ih g' hg.1 ?_
   rw[hg.2,Nat.div_lt_iff_lt_mul (by decide)]
   rw[Nat.pow_succ] at hl
   exact hl
  ·rw[if_neg (by rw[decide_eq_true_eq];exact h)]
   exact⟨g,rfl,hp,by omega⟩
theorem VQ {p a:Int}(hp:PP p)(h0:0<a)(h1:a<p):Ok (Yn a p) λr=>0<=r/\r<p/\Cg p (a*r) 1:=by
 obtain⟨p1,p2,_⟩:=id hp
 unfold Yn
 simp only[Rs.okb]
 refine Ok.bind (GQ (λg:Int×Int×Int=>(0<=g.1/\g.1<p)/\(0<=g.2.1/\g.2.1<=100000)/\(0<=g.2.2/\g.2.2<p)/\Cg p (g.2.2*g.1^g.2.1.toNat) (a^(p-2).toNat)) (λg=>g.2.1.toNat) (λg hg=>?_) 99 (a,p-2,1) ⟨⟨by omega,h1⟩,⟨by show 0<=p-2;omega,by show p-2<=100000;omega⟩,⟨by show(0:Int)<=1;decide,by show(1:Int)<p;omega⟩,Cg.of (Int.one_mul _)⟩ (by show(p-2).toNat<2^99;omega)) λg hg=>⟨_,rfl,?_⟩
 ·obtain⟨⟨a1,a2⟩,⟨b1,b2⟩,⟨c1,c2⟩,d⟩:=hg
  refine⟨?_,λhl=>?_⟩
  ·have:(0<g.2.1)↔0<g.2.1.toNat:=by omega
   simp only[this]
  ·have hl:0<g.2.1.toNat:=hl
   rw[XN (by decide),Rs.okb,Rs.okb,Yv (a:=g.2.2) (by omega) (by omega),Yv (a:=g.1) (by omega) (by omega),Rs.okb,XN (by omega),show Ly g.2.1 2= .ok (g.2.1/2) from Xv (by decide)]
   simp only[Rs.okb]
   have hm:∀w:Int,0<=w % p/\w % p<p:=λw=>⟨Int.emod_nonneg _ (by omega),Int.emod_lt_of_pos _ (by omega)⟩
   have ht:(g.2.1/2).toNat=g.2.1.toNat/2:=by omega
   by_cases hodd:g.2.1 % 2=1
   ·rw[if_pos (decide_eq_true hodd),XN (by omega)]
    simp only[Rs.okb]
    refine⟨_,rfl,⟨hm _,⟨by show 0<=g.2.1/2;omega,by show g.2.1/2<=100000;omega⟩,hm _,?_⟩,ht⟩
    show Cg p (g.2.2*g.1 % p*(g.1*g.1 % p)^(g.2.1/2).toNat) _
    refine(((Cg.emod p _).mul ((Cg.emod p _).pow _)).trans (Cg.of ?_)).trans d
    rw[B1,ht,Int.mul_assoc,Int.mul_comm g.1, ←Int.pow_succ]
    congr 2
    omega
   ·rw[if_neg (by rw[decide_eq_true_eq];exact hodd),Rs.okb,XN (by omega),Rs.okb]
    refine⟨(g.1*g.1 % p,g.2.1/2,g.2.2),rfl,⟨hm _,⟨by show 0<=g.2.1/2;omega,by show g.2.1/2<=100000;omega⟩,⟨c1,c2⟩,?_⟩,ht⟩
    show Cg p (g.2.2*(g.1*g.1 % p)^(g.2.1/2).toNat) _
    refine(((Cg.refl p _).mul ((Cg.emod p _).pow _)).trans (Cg.of ?_)).trans d
    rw[B1,ht]
    congr 2
    omega
 ·obtain⟨⟨_,_,c,d⟩,hz⟩:=hg
  have hz:g.2.1.toNat=0:=hz
  rw[hz,Int.pow_zero,Int.mul_one] at d
  refine⟨c.1,c.2,((Cg.refl p a).mul d).trans ?_⟩
  obtain⟨n,rfl⟩:∃n:Nat,a=n:=⟨a.toNat,by omega⟩
  obtain⟨q,rfl⟩:∃q:Nat,p=q:=⟨p.toNat,by omega⟩
  have hf:=Hw (Hl hp) (a:=n) (λz=>by rw[Int.toNat_natCast] at z;have:=Nat.le_of_dvd (by omega) z;omega)
  rw[Int.toNat_natCast] at hf
  have e:((q:Int)-2).toNat=q-2:=by omega
  have h2:=Nat.div_add_mod (n*n^(q-2)) q
  rw[hf] at h2
  refine⟨((n*n^(q-2)/q:Nat):Int),?_⟩
  rw[e, ←Int.natCast_pow, ←Int.natCast_mul, ←Int.natCast_mul]
  omega
noncomputable def Yb (M:Nat)(r:Nat->Int):List Int:=(List.range M).map r
theorem ZF (M:Nat)(r:Nat->Int):(Yb M r).length=M:=by simp[Yb]
theorem V7 {M:Nat}{r:Nat->Int}{j:Nat}(h:j<M):atR (Yb M r) (j:Int)= .ok (r j):=YA (by simp[Yb,h])
theorem Qv {M:Nat}{r q:Nat->Int}(h:∀j,j<M->r j=q j):Yb M r=Yb M q:=List.map_congr_left λj hj=>h j (List.mem_range.mp hj)
noncomputable def tim (p s:Int)(r:Nat->Int)(j:Nat):Int:=s*r j % p
noncomputable def clr (p:Int)(a:Nat)(l r:Nat->Int)(j:Nat):Int:=(r j-r a*l j) % p
theorem BT {M:Nat}{r:Nat->Int}{s p:Int}(hM:M<=1000)(h0:0<=s)(h1:s<2^63)(hp:0<p):Jj (Yb M r) s p= .ok (Yb M (tim p s r)):=by
 unfold Jj
 simp only[Rs.okb]
 rw[ZN (h:=λx=>s*x % p) (sz (by rw[ZF];omega)) λx _=>by rw[Yv (by omega) (by omega),Rs.okb,XN hp]]
 unfold Yb
 rw[List.map_map]
 rfl
theorem V2 {M a:Nat}{r l:Nat->Int}{p:Int}(hM:M<=1000)(ha:a<M)(h0:0<=r a)(h1:r a<2^63)(hp:0<p):Y7 (Yb M r) (Yb M l) (a:Int) p= .ok (Yb M (clr p a l r)):=by
 unfold Y7
 simp only[Rs.okb]
 rw[V7 ha]
 simp only[Rs.okb]
 rw[ZN (h:=λx:Int×Int=>(x.1-r a*x.2) % p) (sz (by simp[Yb];omega)) λx _=>by rw[Yv (by omega) (by omega),Rs.okb,Rs.okb,XN hp]]
 unfold Yb
 rw[List.zip_map',List.map_map]
 rfl
noncomputable def QB (N:Nat)(F:Nat->Int):Int:=((List.range N).map F).sum
theorem YS (N:Nat)(F:Nat->Int):QB (N+1) F=QB N F+F N:=by
 unfold QB
 rw[List.range_succ,List.map_append,List.sum_append]
 simp
theorem VP {F G:Nat->Int}(N:Nat)(h:∀i,i<N->F i=G i):QB N F=QB N G:=by
 unfold QB
 rw[List.map_congr_left λi hi=>h i (List.mem_range.mp hi)]
theorem Jw {p:Int}{F G:Nat->Int}(N:Nat)(h:∀i,i<N->Cg p (F i) (G i)):Cg p (QB N F) (QB N G):=by
 induction N with
 |zero=>exact Cg.refl ..
 |succ N ih=>rw[YS,YS];exact(ih λi hi=>h i (by omega)).add (h N (by omega))
theorem JP (N:Nat)(u v:Int)(F G:Nat->Int):QB N (λi=>u*F i+v*G i)=u*QB N F+v*QB N G:=by
 induction N with
 |zero=>show(0:Int)=u*0+v*0;omega
 |succ N ih=>rw[YS,YS,YS,ih,Int.mul_add,Int.mul_add];omega
theorem QP (N:Nat){F:Nat->Int}(h:∀i,i<N->F i=0):QB N F=0:=by
 induction N with
 |zero=>rfl
 |succ N ih=>rw[YS,ih λi hi=>h i (by omega),h N (by omega)];rfl
theorem ZT {N k:Nat}(F:Nat->Int)(h:k<N)(hz:∀i,i<N->i≠k->F i=0):QB N F=F k:=by
 induction N with
 |zero=>omega
 |succ N ih=>
  rw[YS]
  by_cases e:k=N
  ·subst e
   rw[QP _ λi hi=>hz i (by omega) (by omega)];omega
  ·rw[ih (by omega) λi hi=>hz i (by omega),hz N (by omega) (λz=>e z.symm)];omega
section
variable {p:Int}{K N:Nat}{e:Nat->Nat->Int}
noncomputable def Lin (p:Int)(K N:Nat)(e:Nat->Nat->Int)(r:Nat->Int):Prop:=∀ j,j<K->Cg p (r j) (QB N λk=>r (K+k)*e k j)
noncomputable def Ran (p:Int)(M:Nat)(r:Nat->Int):Prop:=∀ j,j<M->0<=r j/\r j<p
noncomputable def Kil (p:Int)(K:Nat)(r c:Nat->Int):Prop:=Cg p (QB K λj=>r j*c j) 0
theorem GC {r l t:Nat->Int}{u v:Int}(hr:Lin p K N e r)(hl:Lin p K N e l)(ht:∀j,j<K+N->Cg p (t j) (u*r j+v*l j)):Lin p K N e t:=λj hj=>by
 refine(ht j (by omega)).trans ((((Cg.refl p u).mul (hr j hj)).add ((Cg.refl p v).mul (hl j hj))).trans ?_)
 rw[←JP]
 refine Jw N λk hk=>?_
 have:=((ht (K+k) (by omega)).mul (Cg.refl p (e k j))).symm
 rw[Int.add_mul,Int.mul_assoc,Int.mul_assoc] at this
 exact this
theorem Gx {r l t c:Nat->Int}{u v:Int}(hr:Kil p K r c)(hl:Kil p K l c)(ht:∀j,j<K->Cg p (t j) (u*r j+v*l j)):Kil p K t c:=by
 unfold Kil at hr hl⊢
 have h1:Cg p (QB K λj=>t j*c j) (QB K λj=>u*(r j*c j)+v*(l j*c j)):=Jw K λj hj=>by
  have:=(ht j hj).mul (Cg.refl p (c j))
  rw[Int.add_mul,Int.mul_assoc,Int.mul_assoc] at this
  exact this
 rw[JP] at h1
 refine h1.trans ((((Cg.refl p u).mul hr).add ((Cg.refl p v).mul hl)).trans (Cg.of ?_))
 omega
theorem Ih (s:Int)(r:Nat->Int)(j:Nat):Cg p (tim p s r j) (s*r j+0*r j):=by
 rw[Int.zero_mul,Int.add_zero];exact Cg.emod ..
theorem Ec (a:Nat)(l r:Nat->Int)(j:Nat):Cg p (clr p a l r j) (1*r j+ -(r a)*l j):=by
 rw[Int.one_mul,Int.neg_mul, ←Int.sub_eq_add_neg];exact Cg.emod ..
structure GI (p:Int)(K N:Nat)(e:Nat->Nat->Int)(a:Nat)(ws:List (Nat->Int))(ts:List (Nat×(Nat->Int))):Prop where
 wl:∀r∈ws,Lin p K N e r/\Ran p (K+N) r/\∀j,j<a->r j=0
 tl:∀t∈ts,Lin p K N e t.2/\Ran p (K+N) t.2/\t.1<a/\t.2 t.1=1/\(∀j,j<t.1->t.2 j=0)/\∀t'∈ts,t'.1≠t.1->t.2 t'.1=0
 inc:(ts.map (·.1)).Pairwise (· < ·)
 sp:∀c:Nat->Int,(∀r∈ws,Kil p K r c)->(∀t∈ts,Kil p K t.2 c)->∀k,k<N->Kil p K (e k) c
theorem Jx (hp:0<p)(x:Int):0<=x % p/\x % p<p:=⟨Int.emod_nonneg _ (by omega),Int.emod_lt_of_pos _ hp⟩
theorem GI.skip {a:Nat}{ws:List (Nat->Int)}{ts:List (Nat×(Nat->Int))}(h:GI p K N e a ws ts)(hz:∀r∈ws,r a=0):GI p K N e (a+1) ws ts where
 wl:=λr hr=>by
  obtain⟨h1,h2,h3⟩:=h.wl r hr
  refine⟨h1,h2,λj hj=>?_⟩
  rcases(by omega:j<a∨j=a) with q |q
  ·exact h3 j q
  ·rw[q];exact hz r hr
 tl:=λt ht=>by
  obtain⟨h1,h2,h3,h4,h5,h6⟩:=h.tl t ht
  exact⟨h1,h2,by omega,h4,h5,h6⟩
 inc:=h.inc
 sp:=h.sp
theorem GI.step {a:Nat}{ws:List (Nat->Int)}{ts:List (Nat×(Nat->Int))}{l:Nat->Int}{s:Int}(h:GI p K N e a ws ts)(hp:1<p)(ha:a<K)(hl:l∈ws)(hs:Cg p (l a*s) 1):GI p K N e (a+1) (ws.map (clr p a (tim p s l))) (ts.map (λt=>(t.1,clr p a (tim p s l) t.2))++[(a,tim p s l)]):=by
 obtain⟨l1,l2,l3⟩:=h.wl l hl
 have hpp:0<p:=by omega
 have L1:Lin p K N e (tim p s l):=GC l1 l1 λj _=>Ih s l j
 have L2:Ran p (K+N) (tim p s l):=λj _=>Jx hpp _
 have L3:∀j,j<a->tim p s l j=0:=λj hj=>by
  show s*l j % p=0
  rw[l3 j hj,Int.mul_zero,Int.zero_emod]
 have L4:tim p s l a=1:=Cg.rest (by rw[Int.mul_comm];exact hs) ⟨by decide,hp⟩
 generalize tim p s l=m at L1 L2 L3 L4
 have hclr:∀{r:Nat->Int},Lin p K N e r->Lin p K N e (clr p a m r):=fun {r} hr=>GC hr L1 λj _=>Ec a m r j
 have hran:∀r:Nat->Int,Ran p (K+N) (clr p a m r):=λr j _=>Jx hpp _
 have hat:∀r:Nat->Int,clr p a m r a=0:=λr=>by
  show(r a-r a*m a) % p=0
  rw[L4,Int.mul_one,Int.sub_self,Int.zero_emod]
 have hlow:∀(r:Nat->Int) j,j<a->Ran p (K+N) r->clr p a m r j=r j:=λr j hj hr=>by
  show(r j-r a*m j) % p=r j
  rw[L3 j hj,Int.mul_zero,Int.sub_zero]
  have:=hr j (by omega)
  exact Int.emod_eq_of_lt this.1 this.2
 refine⟨λr hr=>?_,λt ht=>?_,?_,λc hw ht=>?_⟩
 ·obtain⟨r,hr',rfl⟩:=List.mem_map.mp hr
  obtain⟨h1,h2,h3⟩:=h.wl r hr'
  refine⟨hclr h1,hran r,λj hj=>?_⟩
  rcases(by omega:j<a∨j=a) with q |q
  ·rw[hlow r j q h2];exact h3 j q
  ·rw[q];exact hat r
 ·rcases List.mem_append.mp ht with ht |ht
  ·obtain⟨t,htt,rfl⟩:=List.mem_map.mp ht
   obtain⟨h1,h2,h3,h4,h5,h6⟩:=h.tl t htt
   refine⟨hclr h1,hran _,by show t.1<a+1;omega,?_,λj hj=>?_,λt' ht' hne=>?_⟩
   ·show clr p a m t.2 t.1=1
    rw[hlow _ _ h3 h2];exact h4
   ·have hj:j<t.1:=hj
    show clr p a m t.2 j=0
    rw[hlow _ _ (by omega) h2];exact h5 j hj
   ·show clr p a m t.2 t'.1=0
    rcases List.mem_append.mp ht' with q |q
    ·obtain⟨t',q',rfl⟩:=List.mem_map.mp q
     show clr p a m t.2 t'.1=0
     rw[hlow _ _ (h.tl t' q').2.2.1 h2]
     exact h6 t' q' hne
    ·rw[List.mem_singleton.mp q];exact hat _
  ·rw[List.mem_singleton.mp ht]
   refine⟨L1,L2,by show a<a+1;omega,L4,L3,λt' ht' hne=>?_⟩
   rcases List.mem_append.mp ht' with q |q
   ·obtain⟨t',q',rfl⟩:=List.mem_map.mp q
    exact L3 _ (h.tl t' q').2.2.1
   ·rw[List.mem_singleton.mp q] at hne
    exact absurd rfl hne
 ·rw[List.map_append,List.map_map]
  show(ts.map (·.1)++[a]).Pairwise (· < ·)
  rw[List.pairwise_append]
  refine⟨h.inc,by simp,λx hx y hy=>?_⟩
  obtain⟨t,ht,rfl⟩:=List.mem_map.mp hx
  rw[List.mem_singleton.mp hy]
  exact(h.tl t ht).2.2.1
 ·have hm:Kil p K m c:=ht (a,m) (List.mem_append_right _ (by simp))
  have back:∀r:Nat->Int,Kil p K (clr p a m r) c->Kil p K r c:=λr hr=>Gx hr hm λj _=>by
   have:=(Ec (p:=p) a m r j).symm
   refine(Cg.of ?_).trans ((this.mul (Cg.refl p 1)).add (Cg.refl p (r a*m j))) |>.trans (Cg.of ?_)
   ·rw[Int.mul_one,Int.neg_mul];omega
   ·rw[Int.mul_comm _ 1]
  exact h.sp c (λr hr=>back r (hw _ (List.mem_map.mpr ⟨r,hr,rfl⟩))) λt ht'=>back t.2 (ht (t.1,clr p a m t.2) (List.mem_append_left _ (List.mem_map.mpr ⟨t,ht',rfl⟩)))
noncomputable def QD (M:Nat)(t:Nat×(Nat->Int)):Int×List Int:=((t.1:Int),Yb M t.2)
theorem IH (hp:PP p){ws0:List (Nat->Int)}(hK:K<=100)(hN:N<=100)(hw:ws0.length<=100)(h0:GI p K N e 0 ws0 []):Ok (Ze (ws0.map (Yb (K+N))) (K:Int) p) λtold=>∃ ws ts,told=ts.map (QD (K+N))/\GI p K N e K ws ts:=by
 obtain⟨p1,p2,_⟩:=id hp
 unfold Ze
 simp only[Rs.okb]
 rw[J1 (by omega),Rs.okb]
 refine Ok.bind (Ok.forN (λa (g:List (List Int)×List (Int×List Int))=>∃ ws ts,g=(ws.map (Yb (K+N)),ts.map (QD (K+N)))/\GI p K N e a ws ts/\ws.length<=100/\ts.length<=a) ⟨ws0,[],rfl,h0,hw,Nat.le_refl _⟩ λa x g hx hg=>?_) λg hg=>?_
 ·obtain⟨rfl,ha⟩:=Qe hx
  obtain⟨ws,ts,rfl,hI,hwl,htl⟩:=hg
  have hfil:E9 (ws.map (Yb (K+N))) (λa16=>(Rs.bind (atR a16 (a:Int)) λx21=>(Rs.ok (!decide (x21=(0:Int)))))) (λa16=>Rs.ok a16)= .ok ((ws.filter λr=>!decide (r a=0)).map (Yb (K+N))):=by
   rw[K9 (p:=λrow=>!decide (row.getD a 0=0)) (h:=λrow=>row) (sz (by simp;omega)) (λrow hrow=>?_) λ_ _ _=>rfl]
   ·rw[List.map_id',List.filter_map]
    congr 2
    refine List.filter_congr λr _=>?_
    show(!decide ((Yb (K+N) r).getD a 0=0))=_
    have:(Yb (K+N) r).getD a 0=r a:=by simp[Yb,show a<K+N by omega]
    rw[this]
   ·obtain⟨r,hr,rfl⟩:=List.mem_map.mp hrow
    have:(Yb (K+N) r).getD a 0=r a:=by simp[Yb,show a<K+N by omega]
    rw[V7 (by omega),Rs.okb,this]
  rw[hfil,Rs.okb]
  cases hls:ws.filter λr=>!decide (r a=0) with
  |nil=>
   rw[List.map_nil,if_neg (by decide),Rs.okb]
   refine⟨_,rfl,ws,ts,rfl,hI.skip λr hr=>?_,hwl,by omega⟩
   have:=List.filter_eq_nil_iff.mp hls r hr
   simpa using this
  |cons l rest=>
   have hmem:l∈ws.filter λr=>!decide (r a=0):=by rw[hls];exact List.mem_cons_self
   obtain⟨hl,hne⟩:=List.mem_filter.mp hmem
   have hne:l a≠0:=by simpa using hne
   have hlr:=(hI.wl l hl).2.1 a (by omega)
   rw[if_pos (by simp),show atR ((l::rest).map (Yb (K+N))) 0= .ok (Yb (K+N) l) from YA (i:=0) rfl]
   simp only[Rs.okb]
   rw[V7 (show a<K+N by omega),Rs.okb]
   obtain⟨s,es,s0,s1,sc⟩:=VQ hp (a:=l a) (by omega) hlr.2
   rw[es,XB,Rs.okb,BT (by omega) s0 (by omega) (by omega),XB,Rs.okb]
   rw[ZN (h:=λrow=>Yb (K+N) (clr p a (tim p s l) λj=>row.getD j 0)) (sz (by simp;omega)) λrow hrow=>?_,Rs.okb]
   ·rw[ZN (h:=λt:Int×List Int=>(t.1,Yb (K+N) (clr p a (tim p s l) λj=>t.2.getD j 0))) (sz (by simp;omega)) λt ht=>?_,Rs.okb]
    ·rw[Xv (sz (by simp)),Rs.okb,show ∀l1 l2:List (Int×List Int),l1.length+l2.length<=1000->VG l1 l2= .ok (l1++l2) from λl1 l2 h=>Xv (sz (by omega)),Rs.okb]
     ·refine⟨_,rfl,_,_,?_,hI.step (by omega) ha hl sc,by simpa using hwl,by simp;omega⟩
      have hg:∀r:Nat->Int,Yb (K+N) (clr p a (tim p s l) λj=>(Yb (K+N) r).getD j 0)=Yb (K+N) (clr p a (tim p s l) r):=λr=>Qv λj hj=>by
       have q:∀j,j<K+N->(Yb (K+N) r).getD j 0=r j:=λj hj=>by simp[Yb,hj]
       show((Yb (K+N) r).getD j 0-(Yb (K+N) r).getD a 0*_) % p=_
       rw[q j hj,q a (by omega)]
       rfl
      refine Prod.ext ?_ ?_
      ·show(ws.map (Yb (K+N))).map _=(ws.map _).map _
       rw[List.map_map,List.map_map]
       exact List.map_congr_left λr _=>hg r
      ·show(ts.map (QD (K+N))).map _++[((a:Int),Yb (K+N) (tim p s l))]=(ts.map _++[(a,tim p s l)]).map _
       rw[List.map_append,List.map_map,List.map_map]
       congr 1
       refine List.map_congr_left λt _=>?_
       show((t.1:Int),_)=((t.1:Int),_)
       rw[←hg t.2]
       rfl
     ·simp;omega
    ·obtain⟨t,htt,rfl⟩:=List.mem_map.mp ht
     have hr:=(hI.tl t htt).2.1 a (by omega)
     show((noE (Y7 (Yb (K+N) t.2) _ _ _)).bind _)=_
     rw[V2 (by omega) (by omega) hr.1 (by omega) (by omega),XB,Rs.okb]
     congr 2
     refine Qv λj hj=>?_
     have q:∀j,j<K+N->(QD (K+N) t).2.getD j 0=t.2 j:=λj hj=>by simp[QD,Yb,hj]
     show _=((QD (K+N) t).2.getD j 0-(QD (K+N) t).2.getD a 0*_) % p
     rw[q j hj,q a (by omega)]
     rfl
   ·obtain⟨r,hrr,rfl⟩:=List.mem_map.mp hrow
    have hr:=(hI.wl r hrr).2.1 a (by omega)
    rw[V2 (by omega) (by omega) hr.1 (by omega) (by omega),XB]
    congr 1
    refine Qv λj hj=>?_
    have q:∀j,j<K+N->(Yb (K+N) r).getD j 0=r j:=λj hj=>by simp[Yb,hj]
    show _=((Yb (K+N) r).getD j 0-(Yb (K+N) r).getD a 0*_) % p
    rw[q j hj,q a (by omega)]
    rfl
 ·obtain⟨ws,ts,rfl,hI,_,_⟩:=hg
  rw[Qj] at hI
  exact⟨_,rfl,ws,ts,rfl,hI⟩
end
theorem F8 {α:Type}:∀{l acc:List (Int×α)},((acc++l).map (·.1)).Nodup->G8 acc l=acc++l:=by
 intro l
 induction l with
 |nil=>intro acc _;rw[List.append_nil];rfl
 |cons x l ih=>
  intro acc h
  show G8 (Ff acc x.1 x.2) l=_
  have hx:Ff acc x.1 x.2=acc++[x]:=by
   unfold Ff
   rw[if_neg]
   rw[List.any_eq_true]
   rintro⟨kv,h1,h2⟩
   rw[List.map_append,List.nodup_append] at h
   exact h.2.2 kv.1 (List.mem_map.mpr ⟨kv,h1,rfl⟩) x.1 (by simp) (by simpa using h2)
  rw[hx,ih (by simpa using h),List.append_assoc]
  rfl
theorem CJ {α:Type}(d:List (Int×α))(x:Int):(JG d x).isSome=true↔x∈d.map (·.1):=by
 unfold JG
 rw[Option.isSome_map,List.find?_isSome,List.mem_map]
 simp
theorem Dl {n k:Nat}(hk:k<n)(hn:n<=900):JD (n:Int) (k:Int)= .ok (Yb n λj=>if j=k then 1 else 0):=by
 unfold JD
 simp only[Rs.okb]
 rw[Xv (sz (by simp)),Rs.okb,Mn hn,Rs.okb,UH (by simp;omega),Rs.okb]
 congr 1
 exact Vr hk (by rw[if_pos rfl]) λj _ h=>by rw[if_neg h]
noncomputable def w0 (K:Nat)(e:Nat->Nat->Int)(k j:Nat):Int:=if j<K then e k j else if j=K+k then 1 else 0
theorem Hk {K N:Nat}{e:Nat->Nat->Int}(hK:K<=100)(hN:N<=100):Ym ((List.range N).map λk=>Yb K (e k))= .ok (((List.range N).map (w0 K e)).map (Yb (K+N))):=by
 unfold Ym
 simp only[Rs.okb]
 have hlen:((List.range N).map λk=>Yb K (e k)).length=N:=by simp
 rw[hlen]
 have hget:∀(i:Nat) (x:Int×List Int),(Je ((List.range N).map λk=>Yb K (e k)))[i]?=some x->i<N/\x=((i:Int),Yb K (e i)):=λi x hx=>by
  obtain⟨h1,h2⟩:=VE hx
  have hi:=(List.getElem?_eq_some_iff.mp h2).1
  rw[hlen] at hi
  rw[List.getElem?_map,List.getElem?_range hi] at h2
  exact⟨hi,Prod.ext h1 (Option.some.inj h2).symm⟩
 have hel:(Je ((List.range N).map λk=>Yb K (e k))).length=N:=by simp[Je]
 rw[ZN (h:=λx:Int×List Int=>x.2++Yb N λj=>if j=x.1.toNat then 1 else 0) (sz (by rw[hel];omega)) λx hx=>?_]
 ·congr 1
  rw[List.map_map]
  refine List.ext_getElem (by simp[hel]) λi h1 h2=>?_
  have hi:i<N:=by simpa using h2
  have hx:=hget i _ (List.getElem?_eq_getElem (show i<(Je ((List.range N).map λk=>Yb K (e k))).length by rw[hel];exact hi))
  rw[List.getElem_map,hx.2]
  simp only[List.getElem_map,List.getElem_range,Function.comp]
  unfold Yb
  rw[List.range_add,List.map_append,List.map_map]
  congr 1
  ·exact List.map_congr_left λj hj=>by
    have:=List.mem_range.mp hj
    show e i j=w0 K e i j
    unfold w0
    rw[if_pos this]
  ·refine List.map_congr_left λj hj=>?_
   show(if j=(i:Int).toNat then(1:Int) else 0)=w0 K e i (K+j)
   have hw:w0 K e i (K+j)=if K+j=K+i then 1 else 0:=if_neg (by omega)
   rw[hw,Int.toNat_natCast]
   by_cases q:j=i
   ·rw[if_pos q,if_pos (by omega)]
   ·rw[if_neg q,if_neg (by omega)]
 ·obtain⟨i,hi⟩:=List.mem_iff_getElem?.mp hx
  obtain⟨hN',rfl⟩:=hget i x hi
  rw[Dl hN' (by omega),XB,Rs.okb]
  exact Xv (sz (by rw[ZF,ZF];omega))
theorem CV {p:Int}{K N:Nat}{e:Nat->Nat->Int}(hp:1<p)(he:∀k,k<N->Ran p K (e k)):GI p K N e 0 ((List.range N).map (w0 K e)) []:=by
 have hlow:∀k j,j<K->w0 K e k j=e k j:=λk j hj=>if_pos hj
 refine⟨λr hr=>?_,λt ht=>(nomatch ht),List.Pairwise.nil,λc hw _ k hk=>?_⟩
 ·obtain⟨k,hk,rfl⟩:=List.mem_map.mp hr
  have hk:=List.mem_range.mp hk
  refine⟨λj hj=>?_,λj hj=>?_,λj hj=>(by omega)⟩
  ·rw[hlow k j hj,ZT (k:=k) _ hk λi hi hne=>?_]
   ·refine Cg.of ?_
    unfold w0
    rw[if_neg (by omega),if_pos rfl,Int.one_mul]
   ·unfold w0
    rw[if_neg (by omega),if_neg (by omega),Int.zero_mul]
  ·unfold w0
   by_cases q:j<K
   ·rw[if_pos q];exact he k hk j q
   ·rw[if_neg q]
    split<;> omega
 ·have:=hw (w0 K e k) (List.mem_map.mpr ⟨k,List.mem_range.mpr hk,rfl⟩)
  unfold Kil at this⊢
  rw[VP K λj hj=>by rw[←hlow k j hj]]
  exact this
section
variable {p:Int}{K N:Nat}{e:Nat->Nat->Int}{ws:List (Nat->Int)}{ts:List (Nat×(Nat->Int))}
theorem GI.nodup {a:Nat}(h:GI p K N e a ws ts):((ts.map (QD (K+N))).map (·.1)).Nodup:=by
 rw[List.map_map]
 have:((·.1)∘QD (K+N))=(λ(n:Nat)=>(n:Int))∘(λt:Nat×(Nat->Int)=>t.1):=rfl
 rw[this, ←List.map_map,List.Nodup,List.pairwise_map]
 exact h.inc.imp λh=>by omega
noncomputable def G1 (p:Int)(ts:List (Nat×(Nat->Int)))(free j:Nat):Int:=match ts.find? λt=>decide (t.1=j) with
 |some t=>(-(t.2 free)) % p
 |none=>if j=free then 1 else 0
theorem UZ (h:(ts.map (·.1)).Pairwise (· < ·)){t:Nat×(Nat->Int)}(ht:t∈ts)(free:Nat):G1 p ts free t.1=(-(t.2 free)) % p:=by
 unfold G1
 cases hf:ts.find? λt'=>decide (t'.1=t.1) with
 |none=>
  have:=List.find?_eq_none.mp hf t ht
  simp at this
 |some t'=>
  have h1:t'.1=t.1:=by simpa using List.find?_some hf
  have h2:=List.mem_of_find?_eq_some hf
  have:t'=t:=by
   obtain⟨i,hi,rfl⟩:=List.mem_iff_getElem.mp h2
   obtain⟨k,hk,rfl⟩:=List.mem_iff_getElem.mp ht
   rw[List.pairwise_map] at h
   rcases Nat.lt_trichotomy i k with q |q |q
   ·have:=List.pairwise_iff_getElem.mp h i k hi hk q;omega
   ·subst q;rfl
   ·have:=List.pairwise_iff_getElem.mp h k i hk hi q;omega
  rw[this]
theorem Q5 {j:Nat}(hj:∀t∈ts,t.1≠j)(free:Nat):G1 p ts free j=if j=free then 1 else 0:=by
 unfold G1
 rw[List.find?_eq_none.mpr λt ht=>by simpa using hj t ht]
theorem Kr (h:GI p K N e K ws ts)(hp:0<p)(hK:K<=100){free:Nat}(hf:free<K):Yk (free:Int) (ts.map (QD (K+N))) (K:Int) p= .ok (Yb K (G1 p ts free)):=by
 unfold Yk
 simp only[Rs.okb]
 rw[Dl hf (by omega),XB,Rs.okb]
 apply Ok.eq
 refine Ok.bind (Ok.forN (λi (g:List Int)=>∃ c:Nat->Int,g=Yb K c/\(∀t∈ts.take i,c t.1=(-(t.2 free)) % p)/\∀j,(∀t∈ts.take i,t.1≠j)->c j=if j=free then 1 else 0) ⟨_,rfl,λt ht=>absurd ht (by simp),λj _=>rfl⟩ λi x g hx hg=>?_) λg hg=>?_
 ·obtain⟨c,rfl,h1,h2⟩:=hg
  rw[List.getElem?_map] at hx
  obtain⟨t,ht,rfl⟩:=Option.map_eq_some_iff.mp hx
  have hmem:=List.mem_of_getElem? ht
  have hi:=(List.getElem?_eq_some_iff.mp ht).1
  have ht1:=(h.tl t hmem).2.2.1
  show Ok (((((atR (Yb (K+N) t.2) (free:Int)).bind _).bind _)).bind λx18=>(Vd _ ((t.1:Nat):Int) x18).bind _) _
  rw[V7 (by omega),Rs.okb,Rs.okb,XN hp,Rs.okb,UH (by rw[ZF];exact ht1),Rs.okb]
  refine⟨_,rfl,λj=>if j=t.1 then(-(t.2 free)) % p else c j,?_,λt' ht'=>?_,λj hj=>?_⟩
  ·exact Vr ht1 (by rw[if_pos rfl]) λj _ hj=>by rw[if_neg hj]
  ·rw[List.take_add_one,ht,List.mem_append] at ht'
   rcases ht' with q |q
   ·have hne:t'.1≠t.1:=by
     obtain⟨k,hk,rfl⟩:=List.mem_iff_getElem.mp q
     rw[List.length_take] at hk
     have hinc:=h.inc
     rw[List.pairwise_map] at hinc
     have:=List.pairwise_iff_getElem.mp hinc k i (by omega) hi (by omega)
     have e2:ts[i]=t:=by rw[List.getElem?_eq_getElem hi] at ht;exact Option.some.inj ht
     rw[List.getElem_take]
     rw[e2] at this
     omega
    show(if t'.1=t.1 then _ else c t'.1)=_
    rw[if_neg hne];exact h1 t' q
   ·have:t'=t:=by simpa using q
    subst this
    exact if_pos rfl
  ·rw[List.take_add_one,ht] at hj
   have q1:t.1≠j:=hj t (by simp)
   show(if j=t.1 then _ else c j)=_
   rw[if_neg (λz=>q1 z.symm)]
   exact h2 j λt' ht'=>hj t' (by simp[ht'])
 ·obtain⟨c,rfl,h1,h2⟩:=hg
  rw[List.length_map,List.take_length] at h1 h2
  refine⟨_,rfl,Qv λj hj=>?_⟩
  by_cases q:∃t∈ts,t.1=j
  ·obtain⟨t,ht,rfl⟩:=q
   rw[h1 t ht,UZ h.inc ht]
  ·have q:∀t∈ts,t.1≠j:=λt ht z=>q ⟨t,ht,z⟩
   rw[h2 j q,Q5 q]
noncomputable def isT (ts:List (Nat×(Nat->Int)))(j:Nat):Bool:=ts.any λt=>decide (t.1=j)
theorem Gg {j:Nat}:isT ts j=true↔∃t∈ts,t.1=j:=by
 unfold isT
 rw[List.any_eq_true]
 simp
noncomputable def frs (K:Nat)(ts:List (Nat×(Nat->Int))):List Nat:=(List.range K).filter λj=>!(isT ts j)
theorem FM {D:List (List Int)×List (Int×Int)}{f:Int}{ms:List (Int×Int×Int×Int×Int)}(h:DG D)(hA:Xt D.1=(K:Int))(hK:K<=100)(hp:PP p)(hf:¬f % p=0)(e1:Zn D= .ok ms)(hl:ms.length=N)(hN:N<=100)(hm:∀m∈ms,MG (K:Int) m)(hE:(ms.map Za).map (eqT K p f)=(List.range N).map λk=>Yb K (e k))(he:∀k,k<N->Ran p K (e k)):
  ∃ws ts,GI p K N e K ws ts/\Qt D p f= .ok ((frs K ts).map (λ(j:Nat)=>(j:Int)),(frs K ts).map (λj=>Yb K (G1 p ts j)),ts.map λt=>((t.1:Int),Yb N λk=>t.2 (K+k))):=by
 obtain⟨p1,p2,_⟩:=id hp
 obtain⟨told,et,ws,ts,rfl,hI⟩:=IH hp (e:=e) (ws0:=(List.range N).map (w0 K e)) hK hN (by simp;omega) (CV (by omega) he)
 refine⟨ws,ts,hI,?_⟩
 have htl:ts.length<=100:=by
  have h1:(ts.map (·.1)).length<=(List.range K).length:=(List.nodup_iff_pairwise_ne.mpr (hI.inc.imp λh=>by omega)).length_le_of_subset λx hx=>by
   obtain⟨t,ht,rfl⟩:=List.mem_map.mp hx
   exact List.mem_range.mpr (hI.tl t ht).2.2.1
  simp at h1
  omega
 unfold Qt
 simp only[Rs.okb]
 rw[JB h.few h.short,hA,XB,Rs.okb,UR h hA (by omega) hp hf e1 (by omega) hm,XB,Rs.okb,hE,Hk hK hN,XB,Rs.okb,et,XB,Rs.okb]
 rw[show G8 [] (ts.map (QD (K+N)))=ts.map (QD (K+N)) from F8 (by rw[List.nil_append];exact hI.nodup),J1 (by omega),Rs.okb]
 have hkey:∀j:Nat,(JG (ts.map (QD (K+N))) (j:Int)).isSome=isT ts j:=λj=>by
  rw[Bool.eq_iff_iff,CJ,Gg,List.map_map,List.mem_map]
  constructor
  ·rintro⟨t,ht,q⟩
   exact⟨t,ht,by have q:((t.1:Nat):Int)=(j:Int):=q;omega⟩
  ·rintro⟨t,ht,rfl⟩
   exact⟨t,ht,rfl⟩
 rw[K9 (p:=λx:Int=>!(isT ts x.toNat)) (h:=λx=>x) (sz (by simp;omega)) (λx hx=>?_) λ_ _ _=>rfl]
 ·have e2:(((List.range K).map λ(i:Nat)=>(i:Int)).filter λx:Int=>!(isT ts x.toNat)).map (λx=>x)=(frs K ts).map (λ(j:Nat)=>(j:Int)):=by
   rw[List.map_id',List.filter_map]
   congr 1
  rw[e2,Rs.okb]
  have hfl:(frs K ts).length<=100:=by
   have:=List.length_filter_le (λj=>!(isT ts j)) (List.range K)
   unfold frs
   simp at this
   omega
  rw[ZN (h:=λx:Int=>Yb K (G1 p ts x.toNat)) (sz (by simp;omega)) λx hx=>?_,Rs.okb]
  ·rw[ZN (h:=λx:Int×List Int=>(x.1,x.2.drop K)) (sz (by simp;omega)) λx hx=>?_,Rs.okb]
   ·have q1:((frs K ts).map (λ(j:Nat)=>(j:Int))).map (λx:Int=>Yb K (G1 p ts x.toNat))=(frs K ts).map (λj=>Yb K (G1 p ts j)):=by
     rw[List.map_map]
     exact List.map_congr_left λj _=>by
      show Yb K (G1 p ts ((j:Int)).toNat)=_
      rw[Int.toNat_natCast]
    have q2:(ts.map (QD (K+N))).map (λx:Int×List Int=>(x.1,x.2.drop K))=ts.map λt=>((t.1:Int),Yb N λk=>t.2 (K+k)):=by
     rw[List.map_map]
     exact List.map_congr_left λt _=>by
      show((t.1:Int),(Yb (K+N) t.2).drop K)=_
      have:(Yb (K+N) t.2).drop K=Yb N λk=>t.2 (K+k):=by
       unfold Yb
       rw[List.range_add,List.map_append,List.drop_left' (by simp),List.map_map]
       rfl
      rw[this]
    rw[q1,q2]
   ·obtain⟨t,ht,rfl⟩:=List.mem_map.mp hx
    rw[show Ue (QD (K+N) t).2 (some (K:Int)) none=(QD (K+N) t).2.drop K from Uq _ (by show K<=(Yb (K+N) t.2).length;rw[ZF];omega)]
  ·obtain⟨j,hj,rfl⟩:=List.mem_map.mp hx
   have:=List.mem_range.mp (List.mem_filter.mp hj).1
   rw[Kr hI (by omega) hK this,XB,Int.toNat_natCast]
 ·obtain⟨i,hi,rfl⟩:=Ke hx
  rw[hkey,Int.toNat_natCast]
end
theorem BK {K:Nat}{p f:Int}{L:List (Int×Int×Int)}:L.map (eqT K p f)=(List.range L.length).map λk=>Yb K λj=>cfT f (L.getD k (0,0,0)) j % p:=by
 refine List.ext_getElem (by simp) λi h1 h2=>?_
 have hi:i<L.length:=by simpa using h1
 simp[eqT,Yb,hi]
section
variable {n:Nat}
theorem ZC {α β:Type}{f:α->β}:∀{l:List α},(∀a b,a∈l->b∈l->f a=f b->a=b)->l.Nodup->(l.map f).Nodup
 | [],_,_=>List.nodup_nil
 |x::l,h,hn=>by
  have h2:=List.nodup_cons.mp hn
  refine List.nodup_cons.mpr ⟨λhm=>?_,ZC (λa b ha hb=>h a b (.tail _ ha) (.tail _ hb)) h2.2⟩
  obtain⟨y,hy,e⟩:=List.mem_map.mp hm
  exact h2.1 ((h y x (.tail _ hy) (.head _) e)▸hy)
theorem Ju {α:Type}[DecidableEq α]:∀{l m:List α},l.Nodup->(∀x∈l,x∈m)->l.length<=m.length
 | [],m,_,_=>Nat.zero_le _
 |x::l,m,h,hs=>by
  have hx:=hs x (.head _)
  have h2:=List.nodup_cons.mp h
  have:=Ju (l:=l) (m:=m.erase x) h2.2 λy hy=>(List.mem_erase_of_ne λe=>h2.1 (by rw[←e];exact hy)).mpr (hs y (.tail _ hy))
  rw[List.length_erase_of_mem hx] at this
  have:=List.length_pos_of_mem hx
  rw[List.length_cons]
  omega
end
noncomputable def dot (l c:List Int):Int:=((l.zip c).map λx=>x.1*x.2).sum
section
variable {p:Int}{K N:Nat}{e:Nat->Nat->Int}{ws:List (Nat->Int)}{ts:List (Nat×(Nat->Int))}
theorem Yx {α:Type}{l:List α}{i:Nat}{d:α}(h:i<l.length):l.getD i d=l[i]:=by simp[h]
theorem CB (a b:Nat->Int):dot (Yb K a) (Yb K b)=QB K λj=>a j*b j:=by
 unfold dot Yb QB
 rw[List.zip_map',List.map_map]
 rfl
theorem IG {c:Nat->Int}:(((List.range N).map λk=>Yb K (e k)).all λl=>decide (dot l (Yb K c) % p=0))=true↔∀k,k<N->Kil p K (e k) c:=by
 rw[List.all_eq_true]
 constructor
 ·intro h k hk
  have:=of_decide_eq_true (h _ (List.mem_map.mpr ⟨k,List.mem_range.mpr hk,rfl⟩))
  rw[CB] at this
  unfold Kil Cg
  rw[Int.sub_zero]
  exact Int.dvd_of_emod_eq_zero this
 ·intro h l hl
  obtain⟨k,hk,rfl⟩:=List.mem_map.mp hl
  have:=h k (List.mem_range.mp hk)
  unfold Kil Cg at this
  rw[Int.sub_zero] at this
  rw[CB]
  exact decide_eq_true (Int.emod_eq_zero_of_dvd this)
theorem Cv {t c:Nat->Int}(ht:Lin p K N e t)(h:∀k,k<N->Kil p K (e k) c):Kil p K t c:=by
 have key:∀n,n<=N->Kil p K (λj=>QB n λk=>t (K+k)*e k j) c:=by
  intro n
  induction n with
  |zero=>
   intro _
   exact Cg.of (QP K λj _=>Int.zero_mul _)
  |succ n ih=>
   intro hn
   refine Gx (ih (by omega)) (h n (by omega)) (u:=1) (v:=t (K+n)) λj _=>Cg.of ?_
   rw[YS,Int.one_mul]
 unfold Kil
 exact(Jw K λj hj=>(ht j hj).mul (Cg.refl p (c j))).trans (key N (Nat.le_refl _))
theorem Kq {r c d t:Nat->Int}{u v:Int}(hc:Kil p K r c)(hd:Kil p K r d)(h:∀j,j<K->Cg p (t j) (u*c j+v*d j)):Kil p K r t:=by
 unfold Kil at hc hd⊢
 have h1:Cg p (QB K λj=>r j*t j) (QB K λj=>u*(r j*c j)+v*(r j*d j)):=Jw K λj hj=>by
  have:=(Cg.refl p (r j)).mul (h j hj)
  rw[Int.mul_add,Int.mul_left_comm,Int.mul_left_comm (r j) v] at this
  exact this
 rw[JP] at h1
 exact h1.trans ((((Cg.refl p u).mul hc).add ((Cg.refl p v).mul hd)).trans (Cg.of (by omega)))
theorem VA {j:Nat}:j∈frs K ts↔j<K/\∀t∈ts,t.1≠j:=by
 unfold frs
 rw[List.mem_filter,List.mem_range]
 constructor
 ·rintro⟨h1,h2⟩
  refine⟨h1,λt ht z=>?_⟩
  rw[Gg.mpr ⟨t,ht,z⟩] at h2
  cases h2
 ·rintro⟨h1,h2⟩
  refine⟨h1,?_⟩
  cases q:isT ts j with
  |false=>rfl
  |true=>
   obtain⟨t,ht,z⟩:=Gg.mp q
   exact absurd z (h2 t ht)
theorem Hh (h:GI p K N e K ws ts){t:Nat×(Nat->Int)}(ht:t∈ts){free:Nat}(hf:free∈frs K ts):Kil p K t.2 (G1 p ts free):=by
 obtain⟨f1,f2⟩:=VA.mp hf
 obtain⟨h1,h2,h3,h4,h5,h6⟩:=h.tl t ht
 unfold Kil
 have e1:(QB K λj=>t.2 j*G1 p ts free j)=QB K λj=>1*(if j=free then t.2 free else 0)+1*(if j=t.1 then(-(t.2 free)) % p else 0):=VP K λj hj=>by
  by_cases q:∃t'∈ts,t'.1=j
  ·obtain⟨t',ht',rfl⟩:=q
   rw[UZ h.inc ht',if_neg (f2 t' ht')]
   by_cases q:t'.1=t.1
   ·rw[if_pos q,q,h4]
    have:t'=t:=by
     obtain⟨i,hi,rfl⟩:=List.mem_iff_getElem.mp ht'
     obtain⟨k,hk,rfl⟩:=List.mem_iff_getElem.mp ht
     have hinc:=h.inc
     rw[List.pairwise_map] at hinc
     rcases Nat.lt_trichotomy i k with z |z |z
     ·have:=List.pairwise_iff_getElem.mp hinc i k hi hk z;omega
     ·subst z;rfl
     ·have:=List.pairwise_iff_getElem.mp hinc k i hk hi z;omega
    rw[this];omega
   ·rw[if_neg q,h6 t' ht' q];omega
  ·have q:∀t'∈ts,t'.1≠j:=λt' ht' z=>q ⟨t',ht',z⟩
   rw[Q5 q,if_neg (show ¬j=t.1 from λz=>q t ht z.symm)]
   by_cases z:j=free
   ·rw[if_pos z,if_pos z,z];omega
   ·rw[if_neg z,if_neg z];omega
 rw[e1,JP,ZT (k:=free) _ f1 λi _ hne=>if_neg hne,ZT (k:=t.1) _ h3 λi _ hne=>if_neg hne,if_pos rfl,if_pos rfl]
 refine((Cg.refl p _).add ((Cg.refl p 1).mul (Cg.emod ..))).trans (Cg.of ?_)
 omega
theorem E3 (h:GI p K N e K ws ts){c:Nat->Int}(hc:∀t∈ts,Kil p K t.2 c):∀k,k<N->Kil p K (e k) c:=
 h.sp c (λr hr=>Cg.of (QP K λj hj=>by rw[(h.wl r hr).2.2 j hj,Int.zero_mul])) hc
end
noncomputable def AV (n:Nat):Nat->List (List Int)
 |0=>[[]]
 |k+1=>(List.range n).flatMap λ(i:Nat)=>(AV n k).map λc=>(i:Int)::c
theorem J7 {n:Nat}:∀{k:Nat}{c:List Int},c∈AV n k↔c.length=k/\∀x∈c,0<=x/\x<(n:Int)
 |0,c=>by
  constructor
  ·intro h
   have:c=[]:=by simpa[AV] using h
   subst this
   exact⟨rfl,λx hx=>nomatch hx⟩
  ·rintro⟨h,_⟩
   rw[List.length_eq_zero_iff.mp h]
   simp[AV]
 |k+1,c=>by
  unfold AV
  rw[List.mem_flatMap]
  constructor
  ·rintro⟨i,hi,hc⟩
   obtain⟨d,hd,rfl⟩:=List.mem_map.mp hc
   obtain⟨h1,h2⟩:=J7.mp hd
   have:=List.mem_range.mp hi
   refine⟨by rw[List.length_cons,h1],λx hx=>?_⟩
   rcases List.mem_cons.mp hx with z |z
   ·omega
   ·exact h2 x z
  ·rintro⟨h1,h2⟩
   cases c with
   |nil=>cases h1
   |cons a d=>
    have ha:=h2 a List.mem_cons_self
    exact⟨a.toNat,List.mem_range.mpr (by omega),List.mem_map.mpr ⟨d,J7.mpr ⟨by simpa using h1,λx hx=>h2 x (List.mem_cons_of_mem _ hx)⟩,by rw[Int.toNat_of_nonneg ha.1]⟩⟩
theorem Eo (n:Nat):∀k,(AV n k).length=n^k
 |0=>rfl
 |k+1=>by
  unfold AV
  have fl:∀L:List Nat,(L.flatMap λ(i:Nat)=>(AV n k).map λc=>(i:Int)::c).length=L.length*n^k:=λL=>by
   induction L with
   |nil=>simp
   |cons a L ih=>rw[List.flatMap_cons,List.length_append,ih,List.length_map,Eo n k,List.length_cons,Nat.succ_mul,Nat.add_comm]
  rw[fl,List.length_range,Nat.pow_succ,Nat.mul_comm]
theorem JV {n:Nat}:∀k:Nat,(AV n k).Nodup
 |0=>by simp[AV]
 |k+1=>by
  unfold AV
  rw[List.nodup_iff_pairwise_ne,List.pairwise_flatMap]
  refine⟨λi _=>ZC (λa b _ _ e=>(List.cons.inj e).2) (JV k),?_⟩
  refine List.Pairwise.imp (fun {a b} hne x hx y hy e=>?_) (List.nodup_iff_pairwise_ne.mp (List.nodup_range (n:=n)))
  obtain⟨c,_,rfl⟩:=List.mem_map.mp hx
  obtain⟨d,_,rfl⟩:=List.mem_map.mp hy
  have:=(List.cons.inj e).1
  omega
section
variable {p:Int}{K N:Nat}{e:Nat->Nat->Int}{ws:List (Nat->Int)}{ts:List (Nat×(Nat->Int))}
noncomputable def tot (p:Int)(K:Nat)(ts:List (Nat×(Nat->Int)))(ν:Nat->Int)(M:Nat)(j:Nat):Int:=QB M λk=>ν k*G1 p ts ((frs K ts).getD k 0) j
theorem Hn (h:GI p K N e K ws ts){ν:Nat->Int}{t:Nat×(Nat->Int)}(ht:t∈ts):∀M,M<=(frs K ts).length->Kil p K t.2 (tot p K ts ν M):=by
 intro M
 induction M with
 |zero=>intro _;exact Cg.of (QP K λj _=>Int.mul_zero _)
 |succ M ih=>
  intro hM
  refine Kq (ih (by omega)) (Hh h ht (free:=(frs K ts).getD M 0) (by rw[Yx (by omega)];exact List.getElem_mem _)) (u:=1) (v:=ν M) λj _=>Cg.of ?_
  unfold tot
  rw[YS,Int.one_mul]
theorem Fj:(frs K ts).Pairwise (· < ·):=List.Pairwise.filter _ List.pairwise_lt_range
end
theorem JX {M:Nat}{r:Nat->Int}{j:Nat}(h:j<M):(Yb M r).getD j 0=r j:=by simp[Yb,h]
theorem Fs {K:Nat}{c:List Int}(h:c.length=K):c=Yb K λj=>c.getD j 0:=by
 apply List.ext_getElem (by rw[ZF];exact h)
 intro i h1 h2
 rw[←Yx (d:=0) h2,JX (by omega),Yx h1]
section
variable {P K N:Nat}{p:Int}{e:Nat->Nat->Int}{ws:List (Nat->Int)}{ts:List (Nat×(Nat->Int))}
noncomputable def Sol (P K N:Nat)(e:Nat->Nat->Int):List (List Int):=(AV P K).filter λc=>((List.range N).map λk=>Yb K (e k)).all λl=>decide (dot l c % (P:Int)=0)
theorem Qd {c:List Int}:c∈Sol P K N e↔(c.length=K/\∀x∈c,0<=x/\x<(P:Int))/\∀k,k<N->Kil (P:Int) K (e k) λj=>c.getD j 0:=by
 unfold Sol
 rw[List.mem_filter,J7]
 constructor
 ·rintro⟨h1,h2⟩
  rw[Fs h1.1] at h2
  exact⟨h1,IG.mp h2⟩
 ·rintro⟨h1,h2⟩
  refine⟨h1,?_⟩
  rw[Fs h1.1]
  exact IG.mpr h2
theorem Ef:(Sol P K N e).Nodup:=List.Pairwise.filter _ (JV K)
theorem Qx {c:List Int}(hc:c.length=K)(hx:∀x∈c,0<=x/\x<(P:Int)){j:Nat}(hj:j<K):0<=c.getD j 0/\c.getD j 0<(P:Int):=by
 rw[Yx (by omega)]
 exact hx _ (List.getElem_mem _)
theorem HC (h:GI (P:Int) K N e K ws ts){c d:List Int}(hc:c∈Sol P K N e)(hd:d∈Sol P K N e)(hf:∀j∈frs K ts,c.getD j 0=d.getD j 0):c=d:=by
 obtain⟨⟨c1,c2⟩,c3⟩:=Qd.mp hc
 obtain⟨⟨d1,d2⟩,d3⟩:=Qd.mp hd
 have key:∀j,j<K->c.getD j 0=d.getD j 0:=λj hj=>by
  by_cases hm:j∈frs K ts
  ·exact hf j hm
  ·obtain⟨t,ht,rfl⟩:∃t∈ts,t.1=j:=by
    refine Classical.byContradiction λz=>hm (VA.mpr ⟨hj,λt ht e=>z ⟨t,ht,e⟩⟩)
   obtain⟨tl,_,_,t1,_,t3⟩:=h.tl t ht
   have k1:=Cv tl c3
   have k2:=Cv tl d3
   have k3:Kil (P:Int) K t.2 λi=>c.getD i 0-d.getD i 0:=Kq k1 k2 (u:=1) (v:=-1) λi _=>Cg.of (by omega)
   unfold Kil at k3
   rw[ZT (k:=t.1) _ hj λi hi hne=>?_,t1,Int.one_mul] at k3
   ·have a:=Qx c1 c2 hj
    have b:=Qx d1 d2 hj
    exact Cg.eq (by unfold Cg at k3⊢;rwa [Int.sub_zero] at k3) a b
   ·by_cases hi2:i∈frs K ts
    ·show t.2 i*(c.getD i 0-d.getD i 0)=0
     rw[hf i hi2,Int.sub_self,Int.mul_zero]
    ·obtain⟨t',ht',rfl⟩:∃t∈ts,t.1=i:=by
      refine Classical.byContradiction λz=>hi2 (VA.mpr ⟨hi,λt ht e=>z ⟨t,ht,e⟩⟩)
     rw[t3 t' ht' hne,Int.zero_mul]
 apply List.ext_getElem (by omega)
 intro i h1 h2
 have:=key i (by omega)
 rwa [Yx h1,Yx h2] at this
noncomputable def mk (P K:Nat)(ts:List (Nat×(Nat->Int)))(ν:List Int):List Int:=Yb K λj=>tot (P:Int) K ts (λk=>ν.getD k 0) (frs K ts).length j % (P:Int)
theorem DH (hP:1<P){ν:List Int}(hl:ν.length=(frs K ts).length)(hx:∀x∈ν,0<=x/\x<(P:Int)){i:Nat}(hi:i<(frs K ts).length):(mk P K ts ν).getD ((frs K ts).getD i 0) 0=ν.getD i 0:=by
 have hm:(frs K ts).getD i 0∈frs K ts:=by rw[Yx hi];exact List.getElem_mem _
 obtain⟨h1,h2⟩:=VA.mp hm
 unfold mk
 rw[JX h1]
 have:tot (P:Int) K ts (λk=>ν.getD k 0) (frs K ts).length ((frs K ts).getD i 0)=ν.getD i 0:=by
  unfold tot
  rw[ZT (k:=i) _ hi λk hk hne=>?_,Q5 h2,if_pos rfl,Int.mul_one]
  rw[Q5 h2,if_neg,Int.mul_zero]
  intro e
  rw[Yx hi,Yx hk] at e
  rcases Nat.lt_or_gt_of_ne hne with z |z
  ·have:=List.pairwise_iff_getElem.mp (Fj (K:=K) (ts:=ts)) k i hk hi z
   omega
  ·have:=List.pairwise_iff_getElem.mp (Fj (K:=K) (ts:=ts)) i k hi hk z
   omega
 rw[this]
 have:=Qx hl hx hi
 exact Int.emod_eq_of_lt this.1 this.2
theorem Lg (h:GI (P:Int) K N e K ws ts)(hP:1<P)(ν:List Int):mk P K ts ν∈Sol P K N e:=by
 refine Qd.mpr ⟨⟨ZF _ _,λx hx=>?_⟩,E3 h λt ht=>?_⟩
 ·obtain⟨j,_,rfl⟩:=List.mem_map.mp hx
  exact Jx (by omega) _
 ·have k1:=Hn h (ν:=λk=>ν.getD k 0) ht (frs K ts).length (Nat.le_refl _)
  unfold Kil at k1⊢
  refine Cg.trans (Jw K λj hj=>?_) k1
  show Cg _ (t.2 j*(mk P K ts ν).getD j 0) _
  unfold mk
  rw[JX hj]
  exact Cg.mul (Cg.refl _ _) (Cg.emod _ _)
theorem Hi (h:GI (P:Int) K N e K ws ts)(hP:1<P):(Sol P K N e).length=P^(frs K ts).length:=by
 rw[←Eo]
 refine Nat.le_antisymm ?_ ?_
 ·have:=Ju (l:=(Sol P K N e).map λc=>(frs K ts).map λj=>c.getD j 0) (m:=AV P (frs K ts).length) (ZC (λc d hc hd q=>HC h hc hd λj hj=>?_) Ef) λx hx=>?_
  ·rwa [List.length_map] at this
  ·exact List.map_inj_left.mp q j hj
  ·obtain⟨c,hc,rfl⟩:=List.mem_map.mp hx
   obtain⟨⟨c1,c2⟩,_⟩:=Qd.mp hc
   refine J7.mpr ⟨List.length_map _,λy hy=>?_⟩
   obtain⟨j,hj,rfl⟩:=List.mem_map.mp hy
   exact Qx c1 c2 (VA.mp hj).1
 ·have:=Ju (l:=(AV P (frs K ts).length).map (mk P K ts)) (m:=Sol P K N e) (ZC (λc d hc hd q=>?_) (JV _)) λx hx=>?_
  ·rwa [List.length_map] at this
  ·obtain⟨c1,c2⟩:=J7.mp hc
   obtain⟨d1,d2⟩:=J7.mp hd
   apply List.ext_getElem (by omega)
   intro i h1 h2
   have a:=DH hP c1 c2 (i:=i) (by omega)
   have b:=DH hP d1 d2 (i:=i) (by omega)
   rw[q] at a
   rw[a] at b
   rwa [Yx h1,Yx h2] at b
  ·obtain⟨ν,_,rfl⟩:=List.mem_map.mp hx
   exact Lg h hP ν
end
theorem IU {K:Nat}{f:Int}{t:Int×Int×Int}(c:Nat->Int)(a:0<=t.1/\t.1<(K:Int))(b:0<=t.2.1/\t.2.1<(K:Int))(d:0<=t.2.2/\t.2.2<(K:Int)):QB K (λj=>cfT f t j*c j)=f*c t.1.toNat+(1-f)*c t.2.1.toNat-c t.2.2.toNat:=by
 have one:∀(s v:Int),0<=s->s<(K:Int)->QB K (λj=>(if(j:Int)=s then v else 0)*c j)=v*c s.toNat:=λs v h0 h1=>by
  rw[ZT (k:=s.toNat) _ (by omega) λi _ hne=>by rw[if_neg (by omega),Int.zero_mul],if_pos (by omega)]
 have e1:QB K (λj=>cfT f t j*c j)=QB K (λj=>(if(j:Int)=t.1 then f else 0)*c j)+QB K (λj=>(if(j:Int)=t.2.1 then 1-f else 0)*c j)+QB K (λj=>(if(j:Int)=t.2.2 then-1 else 0)*c j):=by
  unfold QB
  rw[←Di, ←Di]
  congr 1
  refine List.map_congr_left λj _=>?_
  unfold cfT
  rw[Int.add_mul,Int.add_mul,Int.add_mul,Int.zero_mul,Int.zero_add]
 rw[e1,one _ _ a.1 a.2,one _ _ b.1 b.2,one _ _ d.1 d.2]
 omega
noncomputable def Yu (f g:Int)(r:Int×Bool)(x:Int->Int):Int->Int:=λj=>
 if j=r.1 then(if r.2=true then f*x (r.1+1)+(1-f)*x r.1 else x (r.1+1))
 else if j=r.1+1 then(if r.2=true then x r.1 else g*(x r.1-(1-f)*x (r.1+1)))
 else x j
noncomputable def Zg (f g:Int):List (Int×Bool)->(Int->Int)->Int->Int
 | [],x=>x
 |r::rs,x=>Zg f g rs (Yu f g r x)
section
variable {p f g:Int}{n:Int}{x y z:Int->Int}{r:Int×Bool}{a b:List (Int×Bool)}
theorem YV:∀(a b:List (Int×Bool)) (x:Int->Int),Zg f g (a++b) x=Zg f g b (Zg f g a x)
 | [],_,_=>rfl
 |r::a,b,x=>YV a b (Yu f g r x)
theorem ZS (a:List (Int×Bool))(r:Int×Bool)(x:Int->Int):Zg f g (a++[r]) x=Yu f g r (Zg f g a x):=YV a [r] x
theorem VI:Yu f g r x r.1=if r.2=true then f*x (r.1+1)+(1-f)*x r.1 else x (r.1+1):=by unfold Yu;rw[if_pos rfl]
theorem VJ:Yu f g r x (r.1+1)=if r.2=true then x r.1 else g*(x r.1-(1-f)*x (r.1+1)):=by unfold Yu;rw[if_neg (by omega),if_pos rfl]
theorem QC {j:Int}(h:¬j=r.1)(h2:¬j=r.1+1):Yu f g r x j=x j:=by unfold Yu;rw[if_neg h,if_neg h2]
noncomputable def CF (p n:Int)(x y:Int->Int):Prop:=∀ j,0<=j->j<n->Cg p (x j) (y j)
noncomputable def In (n:Int)(rs:List (Int×Bool)):Prop:=∀ r∈rs,0<=r.1/\r.1+1<n
theorem CF.refl (x:Int->Int):CF p n x x:=λ_ _ _=>Cg.refl _ _
theorem CF.symm (h:CF p n x y):CF p n y x:=λj a b=>(h j a b).symm
theorem CF.trans (h:CF p n x y)(k:CF p n y z):CF p n x z:=λj a b=>(h j a b).trans (k j a b)
theorem CF.step (h:CF p n x y)(h0:0<=r.1)(h1:r.1+1<n):CF p n (Yu f g r x) (Yu f g r y):=λj j0 j1=>by
 have a:=h r.1 h0 (by omega)
 have b:=h (r.1+1) (by omega) h1
 by_cases c:j=r.1
 ·subst c
  rw[VI,VI]
  split
  ·exact((Cg.refl _ _).mul b).add ((Cg.refl _ _).mul a)
  ·exact b
 ·by_cases d:j=r.1+1
  ·subst d
   rw[VJ,VJ]
   split
   ·exact a
   ·exact(Cg.refl _ _).mul (a.sub ((Cg.refl _ _).mul b))
  ·rw[QC c d,QC c d]
   exact h j j0 j1
theorem CF.run:∀{rs:List (Int×Bool)}{x y:Int->Int},In n rs->CF p n x y->CF p n (Zg f g rs x) (Zg f g rs y)
 | [],_,_,_,h=>h
 |r::rs,x,y,hi,h=>CF.run (rs:=rs) (λq hq=>hi q (.tail _ hq)) (h.step (hi r List.mem_cons_self).1 (hi r List.mem_cons_self).2)
noncomputable def Js (p f g n:Int)(a b:List (Int×Bool)):Prop:=∀ x,CF p n (Zg f g a x) (Zg f g b x)
theorem Js.mid {l r:List (Int×Bool)}(h:Js p f g n a b)(hr:In n r):Js p f g n (l++a++r) (l++b++r):=λx=>by
 rw[YV,YV,YV (l++b),YV l b]
 exact CF.run hr (h _)
theorem Lj (hg:Cg p (f*g) 1)(l:Int)(s:Bool):Js p f g n [(l,s),(l,!s)] []:=λx j j0 j1=>by
 show Cg p (Yu f g (l,!s) (Yu f g (l,s) x) j) (x j)
 obtain⟨k,hk⟩:=hg
 have lo:∀(s:Bool) (y:Int->Int),Yu f g (l,s) y l=if s=true then f*y (l+1)+(1-f)*y l else y (l+1):=λs y=>VI (r:=(l,s))
 have hi:∀(s:Bool) (y:Int->Int),Yu f g (l,s) y (l+1)=if s=true then y l else g*(y l-(1-f)*y (l+1)):=λs y=>VJ (r:=(l,s))
 by_cases c:j=l
 ·subst c
  rw[lo,lo,hi]
  cases s with
  |true=>simp only[Bool.not_true,if_true,if_false,Bool.false_eq_true];exact Cg.refl _ _
  |false=>
   simp only[Bool.not_false,if_true,if_false,Bool.false_eq_true]
   refine⟨k*(x j-(1-f)*x (j+1)),?_⟩
   rw[←Int.mul_assoc p, ←hk];grind
 ·by_cases d:j=l+1
  ·subst d
   rw[hi,lo,hi]
   cases s with
   |true=>
    simp only[Bool.not_true,if_true,if_false,Bool.false_eq_true]
    refine⟨k*x (l+1),?_⟩
    rw[←Int.mul_assoc p, ←hk];grind
   |false=>simp only[Bool.not_false,if_true,if_false,Bool.false_eq_true];exact Cg.refl _ _
  ·rw[QC (r:=(l,!s)) c d,QC (r:=(l,s)) c d]
   exact Cg.refl _ _
theorem Lk {l m:Int}{s t:Bool}(h:l+1<m):Js p f g n [(l,s),(m,t)] [(m,t),(l,s)]:=λx j j0 j1=>by
 show Cg p (Yu f g (m,t) (Yu f g (l,s) x) j) (Yu f g (l,s) (Yu f g (m,t) x) j)
 refine Cg.of ?_
 unfold Yu
 simp only[]
 by_cases c1:j=l
 ·subst c1
  rw[if_neg (show ¬j=m by omega),if_neg (show ¬j=m+1 by omega),if_pos rfl,if_pos rfl,if_neg (show ¬j+1=m by omega),if_neg (show ¬j+1=m+1 by omega),if_neg (show ¬j=m by omega),if_neg (show ¬j=m+1 by omega)]
 ·by_cases c2:j=l+1
  ·subst c2
   rw[if_neg (show ¬l+1=m by omega),if_neg (show ¬l+1=m+1 by omega),if_neg (show ¬l+1=l by omega),if_pos rfl,if_neg (show ¬l+1=l by omega),if_pos rfl,if_neg (show ¬l=m by omega),if_neg (show ¬l=m+1 by omega),if_neg (show ¬l+1=m by omega),if_neg (show ¬l+1=m+1 by omega)]
  ·rw[if_neg c1,if_neg c2,if_neg c1,if_neg c2,if_neg (show ¬m=l by omega),if_neg (show ¬m=l+1 by omega),if_neg (show ¬m+1=l by omega),if_neg (show ¬m+1=l+1 by omega)]
theorem wit {w E:Int}(hg:Cg p (f*g) 1)(h:E=(f*g-1)*w):p∣E:=by
 obtain⟨k,hk⟩:=hg
 exact⟨k*w,by rw[h,hk,Int.mul_assoc]⟩
theorem C5 (hg:Cg p (f*g) 1)(l:Int){s t u:Bool}(h:s=u->t=s):Js p f g n [(l,s),(l+1,t),(l,u)] [(l+1,u),(l,t),(l+1,s)]:=λx j j0 j1=>by
 show Cg p (Yu f g (l,u) (Yu f g (l+1,t) (Yu f g (l,s) x)) j) (Yu f g (l+1,s) (Yu f g (l,t) (Yu f g (l+1,u) x)) j)
 have lo:∀(s:Bool) (y:Int->Int),Yu f g (l,s) y l=if s=true then f*y (l+1)+(1-f)*y l else y (l+1):=λs y=>VI (r:=(l,s))
 have hi:∀(s:Bool) (y:Int->Int),Yu f g (l,s) y (l+1)=if s=true then y l else g*(y l-(1-f)*y (l+1)):=λs y=>VJ (r:=(l,s))
 have no:∀(s:Bool) (y:Int->Int),Yu f g (l,s) y (l+1+1)=y (l+1+1):=λs y=>QC (r:=(l,s)) (show ¬l+1+1=l by omega) (show ¬l+1+1=l+1 by omega)
 have lo2:∀(s:Bool) (y:Int->Int),Yu f g (l+1,s) y (l+1)=if s=true then f*y (l+1+1)+(1-f)*y (l+1) else y (l+1+1):=λs y=>VI (r:=(l+1,s))
 have hi2:∀(s:Bool) (y:Int->Int),Yu f g (l+1,s) y (l+1+1)=if s=true then y (l+1) else g*(y (l+1)-(1-f)*y (l+1+1)):=λs y=>VJ (r:=(l+1,s))
 have no2:∀(s:Bool) (y:Int->Int),Yu f g (l+1,s) y l=y l:=λs y=>QC (r:=(l+1,s)) (show ¬l=l+1 by omega) (show ¬l=l+1+1 by omega)
 by_cases c:j=l
 ·subst c
  simp only[lo,hi,no,lo2,hi2,no2]
  generalize x j=a
  generalize x (j+1)=b
  generalize x (j+1+1)=c
  cases s<;> cases t<;> cases u<;> simp only[if_true,if_false,Bool.false_eq_true]<;> first
   | (exact absurd (h rfl) (by decide))
   | (refine wit hg (w:=-b+a+2*f*b-f*a-f*f*b) ?_;grind;done)
   | (refine wit hg (w:=0) ?_;grind;done)
 ·by_cases d:j=l+1
  ·subst d
   simp only[lo,hi,no,lo2,hi2,no2]
   generalize x l=a
   generalize x (l+1)=b
   generalize x (l+1+1)=c
   cases s<;> cases t<;> cases u<;> simp only[if_true,if_false,Bool.false_eq_true]<;> first
    | (exact absurd (h rfl) (by decide))
    | (refine wit hg (w:=a-f*a) ?_;grind;done)
    | (refine wit hg (w:=0) ?_;grind;done)
  ·by_cases e:j=l+1+1
   ·subst e
    simp only[lo,hi,no,lo2,hi2,no2]
    generalize x l=a
    generalize x (l+1)=b
    generalize x (l+1+1)=c
    cases s<;> cases t<;> cases u<;> simp only[if_true,if_false,Bool.false_eq_true]<;> first
     | (exact absurd (h rfl) (by decide))
     | (refine wit hg (w:=g*c-g*b-f*g*c+f*g*b) ?_;grind;done)
     | (refine wit hg (w:=g*c-f*g*c) ?_;grind;done)
     | (refine wit hg (w:=0) ?_;grind;done)
   ·rw[QC (r:=(l,u)) c d,QC (r:=(l+1,t)) d e,QC (r:=(l,s)) c d,QC (r:=(l+1,s)) d e,QC (r:=(l,t)) c d,QC (r:=(l+1,u)) d e]
    exact Cg.refl _ _
end
noncomputable def toF (c:List Int):Int->Int:=λj=>c.getD j.toNat 0
noncomputable def rdF (P n:Nat)(x:Int->Int):List Int:=Yb n λj=>x (j:Int) % (P:Int)
section
variable {P n n':Nat}{f g:Int}{rs rs' a b:List (Int×Bool)}
theorem QY (x:Int->Int):CF (P:Int) (n:Int) (toF (rdF P n x)) x:=λj j0 j1=>by
 unfold toF rdF
 rw[JX (by omega),Int.toNat_of_nonneg j0]
 exact Cg.emod _ _
noncomputable def Q9 (P n:Nat)(f g:Int)(rs:List (Int×Bool)):List (List Int):=(AV P n).filter λc=>(List.range n).all λj=>decide ((Zg f g rs (toF c) (j:Int)-toF c (j:Int)) % (P:Int)=0)
theorem Zs {c:List Int}:c∈Q9 P n f g rs↔(c.length=n/\∀x∈c,0<=x/\x<(P:Int))/\CF (P:Int) (n:Int) (Zg f g rs (toF c)) (toF c):=by
 unfold Q9
 rw[List.mem_filter,J7,List.all_eq_true]
 refine and_congr_right λ_=>⟨λh j j0 j1=>?_,λh j hj=>?_⟩
 ·have:=of_decide_eq_true (h j.toNat (List.mem_range.mpr (by omega)))
  rw[Int.toNat_of_nonneg j0] at this
  exact Int.dvd_of_emod_eq_zero this
 ·exact decide_eq_true (Int.emod_eq_zero_of_dvd (h (j:Int) (by omega) (by have:=List.mem_range.mp hj;omega)))
theorem Ft:(Q9 P n f g rs).Nodup:=List.Pairwise.filter _ (JV n)
theorem KM {c d:List Int}(hc:c.length=n/\∀x∈c,0<=x/\x<(P:Int))(hd:d.length=n/\∀x∈d,0<=x/\x<(P:Int))(h:CF (P:Int) (n:Int) (toF c) (toF d)):c=d:=by
 apply List.ext_getElem (by omega)
 intro i h1 h2
 have:=(h (i:Int) (by omega) (by omega)).eq (by
  show 0<=c.getD (i:Int).toNat 0/\_
  rw[Int.toNat_natCast];exact Qx hc.1 hc.2 (by omega)) (by
  show 0<=d.getD (i:Int).toNat 0/\_
  rw[Int.toNat_natCast];exact Qx hd.1 hd.2 (by omega))
 unfold toF at this
 rw[Int.toNat_natCast,Yx h1,Yx h2] at this
 exact this
theorem Da (hP:0<P)(x:Int->Int):(rdF P n x).length=n/\∀y∈rdF P n x,0<=y/\y<(P:Int):=by
 refine⟨ZF _ _,λy hy=>?_⟩
 obtain⟨j,_,rfl⟩:=List.mem_map.mp hy
 exact Jx (by omega) _
theorem US (hP:0<P)(hi:In (n':Int) rs')(φ:(Int->Int)->Int->Int)(h1:∀x,CF (P:Int) (n:Int) (Zg f g rs x) x->CF (P:Int) (n':Int) (Zg f g rs' (φ x)) (φ x))(h2:∀x y,CF (P:Int) (n:Int) (Zg f g rs x) x->CF (P:Int) (n:Int) (Zg f g rs y) y->CF (P:Int) (n':Int) (φ x) (φ y)->CF (P:Int) (n:Int) x y):(Q9 P n f g rs).length<=(Q9 P n' f g rs').length:=by
 have:=Ju (l:=(Q9 P n f g rs).map λc=>rdF P n' (φ (toF c))) (m:=Q9 P n' f g rs') (ZC (λc d hc hd e=>?_) Ft) λx hx=>?_
 ·rwa [List.length_map] at this
 ·obtain⟨c1,c2⟩:=Zs.mp hc
  obtain⟨d1,d2⟩:=Zs.mp hd
  refine KM c1 d1 (h2 _ _ c2 d2 ?_)
  refine(QY _).symm.trans ?_
  rw[e]
  exact QY _
 ·obtain⟨c,hc,rfl⟩:=List.mem_map.mp hx
  obtain⟨_,c2⟩:=Zs.mp hc
  refine Zs.mpr ⟨Da hP _,?_⟩
  have t:=QY (P:=P) (n:=n') (φ (toF c))
  exact(CF.run hi t).trans ((h1 _ c2).trans t.symm)
theorem J4 (hP:0<P)(ha:In (n:Int) a)(hb:In (n:Int) b)(h:Js (P:Int) f g (n:Int) a b):(Q9 P n f g a).length=(Q9 P n f g b).length:=
 Nat.le_antisymm (US hP hb (λx=>x) (λx k=>(h x).symm.trans k) λ_ _ _ _ k=>k) (US hP ha (λx=>x) (λx k=>(h x).trans k) λ_ _ _ _ k=>k)
theorem In.app (ha:In (n:Int) a)(hb:In (n:Int) b):In (n:Int) (a++b):=λr hr=>(List.mem_append.mp hr).elim (ha r) (hb r)
theorem B4 (hP:0<P)(ha:In (n:Int) a)(hb:In (n:Int) b):(Q9 P n f g (a++b)).length<=(Q9 P n f g (b++a)).length:=by
 refine US hP (hb.app ha) (Zg f g a) (λx h=>?_) λx y hx hy h=>?_
 ·rw[YV] at h⊢
  exact CF.run ha h
 ·rw[YV] at hx hy
  exact hx.symm.trans ((CF.run hb h).trans hy)
theorem EJ (hP:0<P)(ha:In (n:Int) a)(hb:In (n:Int) b):(Q9 P n f g (a++b)).length=(Q9 P n f g (b++a)).length:=Nat.le_antisymm (B4 hP ha hb) (B4 hP hb ha)
theorem V8:∀{rs:List (Int×Bool)}{x:Int->Int},In (n:Int) rs->Zg f g rs x (n:Int)=x (n:Int)
 | [],_,_=>rfl
 |r::rs,x,h=>by
  have h0:=h r List.mem_cons_self
  show Zg f g rs (Yu f g r x) (n:Int)=_
  rw[V8 (rs:=rs) λq hq=>h q (.tail _ hq),QC (by omega) (by omega)]
theorem Gc {s:Bool}{y:Int->Int}(hg:Cg (P:Int) (f*g) 1)(hn:0<n)(hi:In (n:Int) rs)(h:CF (P:Int) ((n+1:Nat):Int) (Zg f g (rs++[((n:Int)-1,s)]) y) y):Cg (P:Int) (Zg f g rs y ((n:Int)-1)) (y ((n:Int)-1))/\Cg (P:Int) (y (n:Int)) (y ((n:Int)-1)):=by
 have e1:=h ((n:Int)-1) (by omega) (by omega)
 have e2:=h (n:Int) (by omega) (by omega)
 have l1:=VI (f:=f) (g:=g) (r:=((n:Int)-1,s)) (x:=Zg f g rs y)
 have l2:=VJ (f:=f) (g:=g) (r:=((n:Int)-1,s)) (x:=Zg f g rs y)
 have en:(n:Int)-1+1=n:=by omega
 simp only[en,V8 hi] at l1 l2
 rw[ZS] at e1 e2
 rw[l1] at e1
 rw[l2] at e2
 generalize Zg f g rs y ((n:Int)-1)=z at e1 e2
 generalize y ((n:Int)-1)=u at e1
 generalize y (n:Int)=v at e1 e2
 obtain⟨q,hq⟩:=hg
 cases s with
 |true=>
  simp only[if_true] at e1 e2
  obtain⟨k1,h1⟩:=e1
  obtain⟨k2,h2⟩:=e2
  constructor
  ·refine⟨k1+f*k2,?_⟩;grind
  ·refine⟨k1-(1-f)*k2,?_⟩;grind
 |false=>
  simp only[if_false,Bool.false_eq_true] at e1 e2
  obtain⟨k1,h1⟩:=e1
  obtain⟨k2,h2⟩:=e2
  constructor
  ·refine⟨k1+f*k2-q*(z-(1-f)*v),?_⟩;grind
  ·exact⟨k1,h1⟩
theorem BA {s:Bool}(hP:0<P)(hg:Cg (P:Int) (f*g) 1)(hn:0<n)(hi:In (n:Int) rs):(Q9 P n f g rs).length=(Q9 P (n+1) f g (rs++[((n:Int)-1,s)])).length:=by
 have hi1:In ((n+1:Nat):Int) (rs++[((n:Int)-1,s)]):=λr hr=>by
  rcases List.mem_append.mp hr with hr |hr
  ·have:=hi r hr;omega
  ·rw[List.mem_singleton.mp hr]
   show 0<=(n:Int)-1/\(n:Int)-1+1<_
   omega
 refine Nat.le_antisymm (US hP hi1 (λx j=>if j=(n:Int) then x ((n:Int)-1) else x j) (λx h=>?_) λx y hx hy h=>?_) (US hP hi (λx=>x) (λy h=>?_) λx y hx hy h=>?_)
 ·generalize hF:(λj=>if j=(n:Int) then x ((n:Int)-1) else x j)=F
  have F1:∀j,j<(n:Int)->F j=x j:=λj hj=>by rw[←hF];exact if_neg (by omega)
  have F2:F (n:Int)=x ((n:Int)-1):=by rw[←hF];exact if_pos rfl
  have c:CF (P:Int) (n:Int) (Zg f g rs F) F:=by
   have c0:CF (P:Int) (n:Int) F x:=λj _ j1=>Cg.of (F1 j j1)
   exact(CF.run hi c0).trans (h.trans c0.symm)
  intro j j0 j1
  rw[ZS]
  have en:(n:Int)-1+1=n:=by omega
  have z1:=c ((n:Int)-1) (by omega) (by omega)
  rw[F1 _ (by omega)] at z1
  by_cases q1:j=(n:Int)-1
  ·subst q1
   have l1:=VI (f:=f) (g:=g) (r:=((n:Int)-1,s)) (x:=Zg f g rs F)
   simp only[en,V8 hi,F2] at l1
   rw[l1,F1 _ (by omega)]
   generalize Zg f g rs F ((n:Int)-1)=z at z1
   generalize x ((n:Int)-1)=u at z1
   split
   ·obtain⟨k,hk⟩:=z1
    exact⟨(1-f)*k,by grind⟩
   ·exact Cg.refl _ _
  ·by_cases q2:j=(n:Int)
   ·subst q2
    have l2:=VJ (f:=f) (g:=g) (r:=((n:Int)-1,s)) (x:=Zg f g rs F)
    simp only[en,V8 hi,F2] at l2
    rw[l2,F2]
    generalize Zg f g rs F ((n:Int)-1)=z at z1
    generalize x ((n:Int)-1)=u at z1
    split
    ·exact z1
    ·obtain⟨k,hk⟩:=z1
     obtain⟨q,hq⟩:=hg
     exact⟨g*k+q*u,by grind⟩
   ·rw[QC (r:=((n:Int)-1,s)) q1 (show ¬j=(n:Int)-1+1 by omega)]
    exact c j j0 (by omega)
 ·intro j j0 j1
  have:=h j j0 (by omega)
  simpa only[if_neg (show ¬j=(n:Int) by omega)] using this
 ·intro j j0 j1
  by_cases q1:j=(n:Int)-1
  ·subst q1
   exact(Gc hg hn hi h).1
  ·have:=h j j0 (by omega)
   rw[ZS,QC (r:=((n:Int)-1,s)) q1 (show ¬j=(n:Int)-1+1 by omega)] at this
   exact this
 ·intro j j0 j1
  by_cases q1:j=(n:Int)
  ·subst q1
   exact(Gc hg hn hi hx).2.trans ((h _ (by omega) (by omega)).trans (Gc hg hn hi hy).2.symm)
  ·exact h j j0 (by omega)
end
noncomputable def sgB (r:Int×Int):Int×Bool:=(r.1,decide (0<r.2))
noncomputable def rep (j:Nat)(rs:List (Int×Int)):List (Int×Int):=(List.replicate j rs).flatten
noncomputable def mp (rs:List (Int×Int))(j k:Nat):List (Int×Int):=rep j rs++rs.take k
section
variable {rs a b:List (Int×Int)}{n:Nat}{x y:Int}
theorem UJ (j:Nat):rep (j+1) rs=rs++rep j rs:=by unfold rep;rw[List.replicate_succ,List.flatten_cons]
theorem YR (j:Nat):rep (j+1) rs=rep j rs++rs:=by
 unfold rep
 rw[List.replicate_succ',List.flatten_append];simp
theorem DC (j:Nat):∀d:Nat,rep (j+d) rs=rep j rs++rep d rs
 |0=>by unfold rep;simp
 |d+1=>by rw[←Nat.add_assoc,YR,DC j d,YR,List.append_assoc]
theorem YT (a b:List (Int×Int)):∀x,X6 (a++b) x=X6 b (X6 a x):=by
 induction a with
 |nil=>intro x;rfl
 |cons r a ih=>intro x;exact ih _
theorem JQ (a b:List (Int×Int)):∀x,Yz (a++b) x=Yz a x++Yz b (X6 a x):=by
 induction a with
 |nil=>intro x;rfl
 |cons r a ih=>
  intro x
  show JE r x++Yz (a++b) (Qf r x)=JE r x++Yz a (Qf r x)++Yz b (X6 a (Qf r x))
  rw[ih,List.append_assoc]
theorem Vt (r:Int×Int)(x:Int):Qf r (Qf r x)=x:=by
 unfold Qf
 split<;> (try split)<;> (try split)<;> omega
theorem QS:∀{rs:List (Int×Int)}{x y:Int},X6 rs x=X6 rs y->x=y
 | [],_,_,h=>h
 |r::rs,x,y,h=>by
  have:=QS (rs:=rs) h
  rw[←Vt r x,this,Vt]
noncomputable def InR (n:Nat)(rs:List (Int×Int)):Prop:=∀ r∈rs,0<=r.1/\r.1+1<(n:Int)
theorem Ve:∀{rs:List (Int×Int)}{x:Int},InR n rs->0<=x->x<(n:Int)->0<=X6 rs x/\X6 rs x<(n:Int)
 | [],_,_,h0,h1=>⟨h0,h1⟩
 |r::rs,x,h,h0,h1=>by
  have:=Ui (h r List.mem_cons_self).1 (h r List.mem_cons_self).2 h0 h1
  exact Ve (rs:=rs) (λq hq=>h q (.tail _ hq)) this.1 this.2
theorem Dp:∀{rs:List (Int×Int)}{z:Int},InR n rs->0<=z->z<(n:Int)->∃x,0<=x/\x<(n:Int)/\X6 rs x=z
 | [],z,_,h0,h1=>⟨z,h0,h1,rfl⟩
 |r::rs,z,h,h0,h1=>by
  obtain⟨b,b0,b1,e⟩:=Dp (rs:=rs) (λq hq=>h q (.tail _ hq)) h0 h1
  have:=Ui (h r List.mem_cons_self).1 (h r List.mem_cons_self).2 b0 b1
  refine⟨Qf r b,this.1,this.2,?_⟩
  show X6 rs (Qf r (Qf r b))=z
  rw[Vt];exact e
theorem InR.take (h:InR n rs)(k:Nat):InR n (rs.take k):=λr hr=>h r (List.mem_of_mem_take hr)
theorem InR.rep (h:InR n rs)(j:Nat):InR n (rep j rs):=λr hr=>by
 obtain⟨l,h1,h2⟩:=List.mem_flatten.mp hr
 rw[(List.mem_replicate.mp h1).2] at h2
 exact h r h2
theorem InR.sg (h:InR n rs):In (n:Int) (rs.map sgB):=λr hr=>by
 obtain⟨q,hq,rfl⟩:=List.mem_map.mp hr
 exact h q hq
structure Cyc (n:Nat)(rs:List (Int×Int))(ss:List (Int×Nat)):Prop where
 inn:InR n rs
 nz:∀r∈rs,r.2≠0
 one:∀q∈ss,1<=q.2
 cl:∀q∈ss,X6 (rep q.2 rs) q.1=q.1
 all:(ss.flatMap λq=>(List.range q.2).map λj=>X6 (rep j rs) q.1).Perm (Gf n)
variable {ss:List (Int×Nat)}
structure At (ss:List (Int×Nat))(i:Nat)(q:Int×Nat)(j:Nat):Prop where
 wi:ss[i]?=some q
 lt:j<q.2
theorem At.mem {i j:Nat}{q:Int×Nat}(h:At ss i q j):q∈ss:=List.mem_of_getElem? h.wi
theorem Cyc.start (h:Cyc n rs ss){i j:Nat}{q:Int×Nat}(m:At ss i q j):0<=X6 (rep j rs) q.1/\X6 (rep j rs) q.1<(n:Int):=
 ZD.mp (h.all.mem_iff.mp (List.mem_flatMap.mpr ⟨q,m.mem,List.mem_map.mpr ⟨j,List.mem_range.mpr m.lt,rfl⟩⟩))
theorem Cyc.at_ex (h:Cyc n rs ss)(k:Nat){z:Int}(h0:0<=z)(h1:z<(n:Int)):∃i q j,At ss i q j/\X6 (mp rs j k) q.1=z:=by
 obtain⟨x,x0,x1,e⟩:=Dp (h.inn.take k) h0 h1
 obtain⟨q,hq,hx⟩:=List.mem_flatMap.mp (h.all.mem_iff.mpr (ZD.mpr ⟨x0,x1⟩))
 obtain⟨j,hj,rfl⟩:=List.mem_map.mp hx
 obtain⟨i,hi⟩:=List.mem_iff_getElem?.mp hq
 refine⟨i,q,j,⟨hi,List.mem_range.mp hj⟩,?_⟩
 unfold mp
 rw[YT];exact e
theorem Cyc.at_eq (h:Cyc n rs ss)(k:Nat){i j i' j':Nat}{q q':Int×Nat}(m:At ss i q j)(m':At ss i' q' j')(e:X6 (mp rs j k) q.1=X6 (mp rs j' k) q'.1):i=i'/\q=q'/\j=j':=by
 unfold mp at e
 rw[YT,YT] at e
 have e:=QS e
 have nd:=h.all.nodup_iff.mpr (ZQ n)
 rw[List.nodup_iff_pairwise_ne,List.pairwise_flatMap] at nd
 obtain⟨n1,n2⟩:=nd
 obtain⟨l1,g1⟩:=List.getElem?_eq_some_iff.mp m.wi
 obtain⟨l2,g2⟩:=List.getElem?_eq_some_iff.mp m'.wi
 have me:X6 (rep j rs) q.1∈(List.range q.2).map λj=>X6 (rep j rs) q.1:=List.mem_map.mpr ⟨j,List.mem_range.mpr m.lt,rfl⟩
 have me':X6 (rep j' rs) q'.1∈(List.range q'.2).map λj=>X6 (rep j rs) q'.1:=List.mem_map.mpr ⟨j',List.mem_range.mpr m'.lt,rfl⟩
 rcases Nat.lt_trichotomy i i' with c |c |c
 ·have:=List.pairwise_iff_getElem.mp n2 i i' l1 l2 c
  rw[g1,g2] at this
  exact absurd e (this _ me _ me')
 ·subst c
  have hq:q=q':=g1.symm.trans g2
  subst hq
  refine⟨rfl,rfl,?_⟩
  have nq:=n1 q m.mem
  have len:∀L,((List.range L).map λj=>X6 (rep j rs) q.1).length=L:=λL=>by simp
  have ge:∀(L j:Nat) (hj:j<((List.range L).map λj=>X6 (rep j rs) q.1).length),((List.range L).map λj=>X6 (rep j rs) q.1)[j]=X6 (rep j rs) q.1:=λL j hj=>by simp
  have k1:=m.lt
  have k2:=m'.lt
  rcases Nat.lt_trichotomy j j' with d |d |d
  ·have:=List.pairwise_iff_getElem.mp nq j j' (by rw[len];omega) (by rw[len];omega) d
   rw[ge,ge] at this
   exact absurd e this
  ·exact d
  ·have:=List.pairwise_iff_getElem.mp nq j' j (by rw[len];omega) (by rw[len];omega) d
   rw[ge,ge] at this
   exact absurd e.symm this
 ·have:=List.pairwise_iff_getElem.mp n2 i' i l2 l1 c
  rw[g1,g2] at this
  exact absurd e.symm (this _ me' _ me)
theorem BZ {j k L:Nat}(h:j<L):mp rs j k <+: rep L rs:=by
 obtain⟨d,rfl⟩:∃d,L=j+1+d:=⟨L-(j+1),by omega⟩
 rw[DC,YR]
 unfold mp
 exact⟨rs.drop k++rep d rs,by rw[←List.append_assoc,List.append_assoc (rep j rs),List.take_append_drop]⟩
theorem Eh:∀{L:Nat}{p:List (Int×Int)},1<=L->p <+: rep L rs->∃j k,j<L/\k<=rs.length/\p=mp rs j k
 |L+1,p,_,h=>by
  rw[UJ] at h
  by_cases c:p.length<=rs.length
  ·have h2:p <+: rs:=List.prefix_of_prefix_length_le h (List.prefix_append _ _) c
   exact⟨0,p.length,by omega,c,by
    unfold mp rep
    rw[List.replicate_zero,List.flatten_nil,List.nil_append]
    exact List.prefix_iff_eq_take.mp h2⟩
  ·have h2:rs <+: p:=List.prefix_of_prefix_length_le (List.prefix_append _ _) h (by omega)
   obtain⟨d,rfl⟩:=h2
   have h3:d <+: rep L rs:=(List.prefix_append_right_inj rs).mp h
   cases L with
   |zero=>
    have:d=[]:=by
     unfold rep at h3
     simpa using h3
    subst this
    simp at c
   |succ L=>
    obtain⟨j,k,hj,hk,rfl⟩:=Eh (L:=L+1) (by omega) h3
    exact⟨j+1,k,by omega,hk,by unfold mp;rw[UJ,List.append_assoc]⟩
theorem Bh (r:Int×Int)(x:Int):X3 (JE r x)<=1:=by
 unfold JE
 split
 ·exact VF _
 ·split
  ·exact VF _
  ·exact Nat.zero_le _
theorem GB:∀{R:List (Int×Int)}{s:Int}{v:Nat},v<=X3 (Yz R s)->∃p,p <+: R/\X3 (Yz p s)=v
 | [],s,v,h=>⟨[],List.prefix_refl _,by
  have:X3 (Yz [] s)=0:=rfl
  omega⟩
 |r::R,s,v,h=>by
  by_cases c:v=0
  ·exact⟨[],List.nil_prefix,by subst c;rfl⟩
  ·have e:∀q:List (Int×Int),X3 (Yz (r::q) s)=X3 (JE r s)+X3 (Yz q (Qf r s)):=λq=>ZB _ _
   rw[e] at h
   have:=Bh r s
   obtain⟨p,h1,h2⟩:=GB (R:=R) (s:=Qf r s) (v:=v-X3 (JE r s)) (by omega)
   refine⟨r::p,(List.prefix_cons_inj r).mpr h1,?_⟩
   rw[e,h2];omega
theorem Kj {f g:Int}{r:Int×Int}{c:Int->Int}(hv:r.2≠0)(h:X3 (JE r x)=0):Yu f g (sgB r) c (Qf r x)=c x:=by
 have lo:=VI (f:=f) (g:=g) (r:=sgB r) (x:=c)
 have hi:=VJ (f:=f) (g:=g) (r:=sgB r) (x:=c)
 have s1:(sgB r).1=r.1:=rfl
 have s2:(sgB r).2=decide (0<r.2):=rfl
 rw[s1,s2] at lo hi
 by_cases c1:x=r.1
 ·rw[Ul c1] at h
  rw[Uf c1,hi,c1]
  have:¬r.2<0:=λz=>by rw[JW z] at h;cases h
  rw[if_pos (decide_eq_true (by omega))]
 ·by_cases c2:x=r.1+1
  ·rw[Ur c2] at h
   rw[Uj c2,lo,c2]
   have:¬ -r.2<0:=λz=>by rw[JW z] at h;cases h
   rw[if_neg (by rw[decide_eq_true_eq];omega)]
  ·rw[Dm c1 c2]
   exact QC (r:=sgB r) c1 c2
theorem GF {f g:Int}:∀{d:List (Int×Int)}{x:Int}{c:Int->Int},(∀r∈d,r.2≠0)->X3 (Yz d x)=0->Zg f g (d.map sgB) c (X6 d x)=c x
 | [],_,_,_,_=>rfl
 |r::d,x,c,hv,h=>by
  have h:X3 (JE r x++Yz d (Qf r x))=0:=h
  rw[ZB] at h
  show Zg f g (d.map sgB) (Yu f g (sgB r) c) (X6 d (Qf r x))=_
  rw[GF (d:=d) (λq hq=>hv q (.tail _ hq)) (by omega)]
  exact Kj (hv r List.mem_cons_self) (by omega)
end
theorem F6 {ws:List (List Int)}{i i':Nat}{w:List Int}(h:ws[i]?=some w)(c:i<i'):Xt (ws.take i)+(ZA w:Int)<=Xt (ws.take i'):=by
 rw[←QM h]
 have e:ws.take i'=ws.take (i+1)++(ws.take i').drop (i+1):=by
  conv=>lhs;rw[←List.take_append_drop (i+1) (ws.take i')]
  rw[List.take_take,Nat.min_eq_left c]
 rw[e,Jv]
 have:=Ql ((ws.take i').drop (i+1))
 omega
theorem B9:∀{ws:List (List Int)}{a:Int},0<=a->a<Xt ws->∃i w,ws[i]?=some w/\Xt (ws.take i)<=a/\a<Xt (ws.take i)+(ZA w:Int)
 | [],a,h0,h1=>by
  have:Xt []=0:=rfl
  omega
 |w::ws,a,h0,h1=>by
  rw[Y2] at h1
  by_cases c:a<(ZA w:Int)
  ·exact⟨0,w,rfl,by rw[List.take_zero];exact h0,by rw[List.take_zero];show a<0+_;omega⟩
  ·obtain⟨i,v,e,h2,h3⟩:=B9 (ws:=ws) (a:=a-(ZA w:Int)) (by omega) (by omega)
   exact⟨i+1,v,by simpa using e,by rw[List.take_succ_cons,Y2];omega,by rw[List.take_succ_cons,Y2];omega⟩
noncomputable def QO (rs:List (Int×Int))(q:Int×Nat):List Int:=Yz (rep q.2 rs) q.1
noncomputable def wks (rs:List (Int×Int))(ss:List (Int×Nat)):List (List Int):=ss.map (QO rs)
noncomputable def Arc (rs:List (Int×Int))(ss:List (Int×Nat))(i:Nat)(q:Int×Nat)(p:List (Int×Int)):Int:=Xt ((wks rs ss).take i)+(X3 (Yz p q.1):Int) % (ZA (QO rs q):Int)
section
variable {rs:List (Int×Int)}{ss:List (Int×Nat)}{P n:Nat}{f g:Int}{i i' j j' k:Nat}{q q':Int×Nat}{p p':List (Int×Int)}
theorem Jk (h:ss[i]?=some q):(wks rs ss)[i]?=some (QO rs q):=by unfold wks;rw[List.getElem?_map,h];rfl
theorem KF (q:Int×Nat)(p:List (Int×Int)):0<=(X3 (Yz p q.1):Int) % (ZA (QO rs q):Int)/\(X3 (Yz p q.1):Int) % (ZA (QO rs q):Int)<(ZA (QO rs q):Int):=by
 have:=Uk (QO rs q)
 exact⟨Int.emod_nonneg _ (by omega),Int.emod_lt_of_pos _ (by omega)⟩
theorem KS (h:ss[i]?=some q):0<=Arc rs ss i q p/\Arc rs ss i q p<Xt (wks rs ss):=by
 have m:=KF (rs:=rs) q p
 have t0:=Ql ((wks rs ss).take i)
 have hl:=(List.getElem?_eq_some_iff.mp (Jk (rs:=rs) h)).1
 have:=F6 (Jk (rs:=rs) h) hl
 rw[List.take_length] at this
 unfold Arc
 omega
theorem BV (h:ss[i]?=some q)(h':ss[i']?=some q')(e:Arc rs ss i q p=Arc rs ss i' q' p'):i=i'/\q=q'/\(X3 (Yz p q.1):Int) % (ZA (QO rs q):Int)=(X3 (Yz p' q.1):Int) % (ZA (QO rs q):Int):=by
 have m:=KF (rs:=rs) q p
 have m':=KF (rs:=rs) q' p'
 have hi:i=i':=by
  rcases Nat.lt_trichotomy i i' with c |c |c
  ·have:=F6 (Jk (rs:=rs) h) c
   unfold Arc at e;omega
  ·exact c
  ·have:=F6 (Jk (rs:=rs) h') c
   unfold Arc at e;omega
 subst hi
 have hq:q=q':=Option.some.inj (h.symm.trans h')
 subst hq
 refine⟨rfl,rfl,?_⟩
 unfold Arc at e;omega
theorem IY (hc:Cyc n rs ss){a:Int}(h0:0<=a)(h1:a<Xt (wks rs ss)):∃i q j k,At ss i q j/\k<=rs.length/\Arc rs ss i q (mp rs j k)=a:=by
 obtain⟨i,w,e,h2,h3⟩:=B9 h0 h1
 unfold wks at e
 rw[List.getElem?_map] at e
 obtain⟨q,hq,rfl⟩:=Option.map_eq_some_iff.mp e
 have hm:=List.mem_of_getElem? hq
 obtain⟨v,hv⟩:∃v:Nat,a-Xt ((wks rs ss).take i)=(v:Int):=⟨(a-Xt ((wks rs ss).take i)).toNat,by have:Xt ((wks rs ss).take i)<=a:=h2;omega⟩
 have h3:a<Xt ((wks rs ss).take i)+(ZA (QO rs q):Int):=h3
 have hN:ZA (QO rs q)=max (X3 (QO rs q)) 1:=rfl
 obtain⟨p,p1,p2⟩:=GB (R:=rep q.2 rs) (s:=q.1) (v:=v) (by show v<=X3 (QO rs q);omega)
 obtain⟨j,k,hj,hk,rfl⟩:=Eh (hc.one q hm) p1
 refine⟨i,q,j,k,⟨hq,hj⟩,hk,?_⟩
 unfold Arc
 rw[p2,Int.emod_eq_of_lt (by omega) (by omega)]
 omega
theorem V6 (h:p <+: p')(s:Int):∃d,p'=p++d/\X3 (Yz p' s)=X3 (Yz p s)+X3 (Yz d (X6 p s)):=by
 obtain⟨d,rfl⟩:=h
 exact⟨d,rfl,by rw[JQ,ZB]⟩
theorem HX (hc:Cyc n rs ss){L:Nat}(h:p <+: rep L rs):∀r∈p,r.2≠0:=λr hr=>by
 obtain⟨l,h1,h2⟩:=List.mem_flatten.mp (h.subset hr)
 rw[(List.mem_replicate.mp h1).2] at h2
 exact hc.nz r h2
noncomputable def vlP (f g:Int)(x:Int->Int)(s:Int)(p:List (Int×Int)):Int:=Zg f g (p.map sgB) x (X6 p s)
theorem UF (hc:Cyc n rs ss){L:Nat}{x:Int->Int}{s:Int}(h:p <+: p')(hp:p' <+: rep L rs)(e:X3 (Yz p s)=X3 (Yz p' s)):vlP f g x s p'=vlP f g x s p:=by
 obtain⟨d,rfl,hd⟩:=V6 h s
 unfold vlP
 rw[List.map_append,YV,YT,GF (λr hr=>HX hc hp r (List.mem_append_right _ hr)) (by omega)]
theorem KE (hc:Cyc n rs ss){x:Int->Int}(hx:CF (P:Int) (n:Int) (Zg f g (rs.map sgB) x) x):∀j,CF (P:Int) (n:Int) (Zg f g ((rep j rs).map sgB) x) x
 |0=>CF.refl x
 |j+1=>by
  rw[UJ,List.map_append,YV]
  exact(CF.run (hc.inn.rep j).sg hx).trans (KE hc hx j)
theorem MJ (hc:Cyc n rs ss)(hq:ss[i]?=some q):0<=q.1/\q.1<(n:Int):=hc.start (j:=0) ⟨hq,hc.one q (List.mem_of_getElem? hq)⟩
theorem Bn (hc:Cyc n rs ss){x:Int->Int}(hx:CF (P:Int) (n:Int) (Zg f g (rs.map sgB) x) x)(hq:ss[i]?=some q):Cg (P:Int) (vlP f g x q.1 (rep q.2 rs)) (vlP f g x q.1 []):=by
 have h:=MJ hc hq
 unfold vlP
 rw[hc.cl q (List.mem_of_getElem? hq)]
 exact KE hc hx q.2 q.1 h.1 h.2
theorem HS (hc:Cyc n rs ss){x:Int->Int}(hx:CF (P:Int) (n:Int) (Zg f g (rs.map sgB) x) x)(h:ss[i]?=some q)(h':ss[i']?=some q')(hp:p <+: rep q.2 rs)(hp':p' <+: rep q'.2 rs)(e:Arc rs ss i q p=Arc rs ss i' q' p'):Cg (P:Int) (vlP f g x q.1 p) (vlP f g x q'.1 p'):=by
 obtain⟨rfl,rfl,e0⟩:=BV h h' e
 have key:∀{p p':List (Int×Int)},p <+: rep q.2 rs->p' <+: rep q.2 rs->X3 (Yz p q.1)<=X3 (Yz p' q.1)->(X3 (Yz p q.1):Int) % (ZA (QO rs q):Int)=(X3 (Yz p' q.1):Int) % (ZA (QO rs q):Int)->Cg (P:Int) (vlP f g x q.1 p) (vlP f g x q.1 p'):=fun {p p'} hp hp' hle e=>by
  obtain⟨d,hd,hn⟩:=V6 hp q.1
  obtain⟨d',hd',hn'⟩:=V6 hp' q.1
  have hN:ZA (QO rs q)=max (X3 (Yz (rep q.2 rs) q.1)) 1:=rfl
  by_cases c:X3 (Yz p q.1)=X3 (Yz p' q.1)
  ·rcases List.prefix_or_prefix_of_prefix hp hp' with z |z
   ·exact Cg.of (UF hc z hp' c).symm
   ·exact Cg.of (UF hc z hp c.symm)
  ·have hz:X3 (Yz p q.1)=0/\X3 (Yz p' q.1)=X3 (Yz (rep q.2 rs) q.1):=by
    by_cases c2:X3 (Yz p' q.1)<ZA (QO rs q)
    ·rw[Int.emod_eq_of_lt (by omega) (by omega),Int.emod_eq_of_lt (by omega) (by omega)] at e
     omega
    ·have e2:X3 (Yz p' q.1)=ZA (QO rs q):=by omega
     rw[e2,Int.emod_self,Int.emod_eq_of_lt (by omega) (by omega)] at e
     omega
   have a:=UF (f:=f) (g:=g) (x:=x) hc (List.nil_prefix (l:=p)) hp (show X3 (Yz [] q.1)=_ by rw[hz.1];rfl)
   have b:=UF (f:=f) (g:=g) (x:=x) hc hp' (List.prefix_refl _) hz.2
   rw[a, ←b]
   exact(Bn hc hx h).symm
 rcases Nat.le_total (X3 (Yz p q.1)) (X3 (Yz p' q.1)) with c |c
 ·exact key hp hp' c e0
 ·exact(key hp' hp c e0.symm).symm
end
noncomputable def EqK (p f:Int)(rs:List (Int×Int))(ss:List (Int×Nat))(C:Int->Int)(k:Nat):Prop:=∀ r,rs[k]?=some r->∀i q j i' q' j',At ss i q j->At ss i' q' j'->X6 (mp rs j k) q.1=r.1->X6 (mp rs j' k) q'.1=r.1+1->
 (0<r.2->Cg p (f*C (Arc rs ss i' q' (mp rs j' k))+(1-f)*C (Arc rs ss i q (mp rs j k))) (C (Arc rs ss i' q' (mp rs j' (k+1)))))/\
 (r.2<0->Cg p (f*C (Arc rs ss i q (mp rs j (k+1)))+(1-f)*C (Arc rs ss i' q' (mp rs j' k))) (C (Arc rs ss i q (mp rs j k))))
section
variable {rs:List (Int×Int)}{ss:List (Int×Nat)}{P n:Nat}{f g:Int}{i i' j j' k:Nat}{q q':Int×Nat}{C:Int->Int}{x:Int->Int}
theorem Qn {r:Int×Int}(h:rs[k]?=some r):mp rs j (k+1)=mp rs j k++[r]:=by
 unfold mp
 rw[List.take_add_one,h,List.append_assoc];rfl
theorem KJ {r:Int×Int}(h:rs[k]?=some r):(rs.take (k+1)).map sgB=(rs.take k).map sgB++[sgB r]:=by
 rw[List.take_add_one,h,List.map_append];rfl
theorem Bd {r:Int×Int}(h:rs[k]?=some r)(hn:X3 (JE r (X6 (mp rs j k) q.1))=0):Arc rs ss i q (mp rs j (k+1))=Arc rs ss i q (mp rs j k):=by
 unfold Arc
 rw[Qn h,QT,ZB,hn,Nat.add_zero]
theorem phi (hc:Cyc n rs ss)(hg:Cg (P:Int) (f*g) 1)(hE:∀k,k<rs.length->EqK (P:Int) f rs ss C k)(hx:∀i q j,At ss i q j->Cg (P:Int) (x (X6 (rep j rs) q.1)) (C (Arc rs ss i q (mp rs j 0)))):∀k,k<=rs.length->∀i q j,At ss i q j->Cg (P:Int) (Zg f g ((rs.take k).map sgB) x (X6 (mp rs j k) q.1)) (C (Arc rs ss i q (mp rs j k))):=by
 intro k
 induction k with
 |zero=>
  intro _ i q j m
  have:=hx i q j m
  have e:mp rs j 0=rep j rs:=by unfold mp;rw[List.take_zero,List.append_nil]
  rw[e] at this
  rw[List.take_zero,e]
  exact this
 |succ k ih=>
  intro hk i q j m
  have ih:=ih (by omega)
  obtain⟨r,hr⟩:∃r,rs[k]?=some r:=⟨_,List.getElem?_eq_getElem (by omega)⟩
  have hrm:=List.mem_of_getElem? hr
  have hn:=hc.inn r hrm
  have hz:=hc.nz r hrm
  have hE:=hE k (by omega) r hr
  rw[KJ hr,ZS]
  have hp:X6 (mp rs j (k+1)) q.1=Qf r (X6 (mp rs j k) q.1):=by rw[Qn hr,QU]
  have hi0:=ih i q j m
  rw[hp]
  by_cases ho:X3 (JE r (X6 (mp rs j k) q.1))=0
  ·rw[Kj hz ho,Bd hr ho]
   exact hi0
  ·have s1:(sgB r).1=r.1:=rfl
   have s2:(sgB r).2=decide (0<r.2):=rfl
   have lo:=VI (f:=f) (g:=g) (r:=sgB r) (x:=Zg f g ((rs.take k).map sgB) x)
   have hi:=VJ (f:=f) (g:=g) (r:=sgB r) (x:=Zg f g ((rs.take k).map sgB) x)
   rw[s1,s2] at lo hi
   by_cases c1:X6 (mp rs j k) q.1=r.1
   ·have hneg:r.2<0:=by
     rw[Ul c1] at ho
     exact Classical.byContradiction λz=>ho (JT z)
    obtain⟨i',q',j',m',e'⟩:=hc.at_ex k (z:=r.1+1) (by omega) hn.2
    have hE:=(hE i q j i' q' j' m m' c1 e').2 hneg
    have hi1:=ih i' q' j' m'
    rw[Uf c1,hi,if_neg (by rw[decide_eq_true_eq];omega)]
    rw[c1] at hi0
    rw[e'] at hi1
    obtain⟨a,ha⟩:=hE
    obtain⟨b,hb⟩:=hi0
    obtain⟨d,hd⟩:=hi1
    obtain⟨w,hw⟩:=hg
    exact⟨g*b-g*(1-f)*d-g*a+w*C (Arc rs ss i q (mp rs j (k+1))),by grind⟩
   ·have c2:X6 (mp rs j k) q.1=r.1+1:=Classical.byContradiction λz=>ho (by rw[Dn c1 z];rfl)
    have hpos:0<r.2:=by
     rw[Ur c2] at ho
     have: -r.2<0:=Classical.byContradiction λz=>ho (JT z)
     omega
    obtain⟨i',q',j',m',e'⟩:=hc.at_ex k (z:=r.1) hn.1 (by omega)
    have hE:=(hE i' q' j' i q j m' m e' c2).1 hpos
    have hi1:=ih i' q' j' m'
    rw[Uj c2,lo,if_pos (decide_eq_true hpos)]
    rw[c2] at hi0
    rw[e'] at hi1
    exact(((Cg.refl _ f).mul hi0).add ((Cg.refl _ (1-f)).mul hi1)).trans hE
theorem DQ {L:Nat}:mp rs L rs.length=rep (L+1) rs:=by
 unfold mp
 rw[List.take_length,YR]
theorem Ho (hq:ss[i]?=some q):Arc rs ss i q (rep q.2 rs)=Arc rs ss i q []:=by
 unfold Arc
 congr 1
 have e1:X3 (Yz (rep q.2 rs) q.1)=X3 (QO rs q):=rfl
 have e2:X3 (Yz [] q.1)=0:=rfl
 rw[e1,e2]
 by_cases z:X3 (QO rs q)=0
 ·rw[z]
 ·have:(ZA (QO rs q):Int)=(X3 (QO rs q):Int):=by unfold ZA;omega
  rw[this,Int.emod_self];rfl
theorem EM (hc:Cyc n rs ss)(hg:Cg (P:Int) (f*g) 1)(hE:∀k,k<rs.length->EqK (P:Int) f rs ss C k)(hx:∀i q j,At ss i q j->Cg (P:Int) (x (X6 (rep j rs) q.1)) (C (Arc rs ss i q (mp rs j 0)))):CF (P:Int) (n:Int) (Zg f g (rs.map sgB) x) x:=λz z0 z1=>by
 obtain⟨i,q,j,m,e⟩:=hc.at_ex 0 z0 z1
 have e0:∀j,mp rs j 0=rep j rs:=λj=>by unfold mp;rw[List.take_zero,List.append_nil]
 rw[e0] at e
 have k1:=hx i q j m
 rw[e] at k1
 have kf:=phi hc hg hE hx rs.length (Nat.le_refl _)
 rw[List.take_length] at kf
 refine Cg.trans ?_ k1.symm
 cases j with
 |zero=>
  have hL:=hc.one q m.mem
  have:=kf i q (q.2-1) ⟨m.wi,by omega⟩
  rw[DQ,show q.2-1+1=q.2 by omega,hc.cl q m.mem,Ho m.wi] at this
  have e':q.1=z:=e
  rw[e'] at this
  exact this
 |succ j=>
  have:=kf i q j ⟨m.wi,by have:=m.lt;omega⟩
  rw[DQ,e] at this
  rw[e0]
  exact this
theorem psi (hc:Cyc n rs ss)(hx:CF (P:Int) (n:Int) (Zg f g (rs.map sgB) x) x):∃C:Int->Int,∀i q j k,At ss i q j->Cg (P:Int) (C (Arc rs ss i q (mp rs j k))) (Zg f g ((rs.take k).map sgB) x (X6 (mp rs j k) q.1)):=by
 have key:∀a:Int,∃v:Int,∀i q p,ss[i]?=some q->p <+: rep q.2 rs->Arc rs ss i q p=a->Cg (P:Int) v (vlP f g x q.1 p):=λa=>by
  by_cases c:∃i q p,ss[i]?=some q/\p <+: rep q.2 rs/\Arc rs ss i q p=a
  ·obtain⟨i,q,p,h1,h2,h3⟩:=c
   exact⟨vlP f g x q.1 p,λi' q' p' g1 g2 g3=>HS hc hx h1 g1 h2 g2 (h3.trans g3.symm)⟩
  ·exact⟨0,λi q p h1 h2 h3=>absurd ⟨i,q,p,h1,h2,h3⟩ c⟩
 obtain⟨C,hC⟩:=Classical.axiomOfChoice key
 refine⟨C,λi q j k m=>(hC _ i q (mp rs j k) m.wi (BZ m.lt) rfl).trans ?_⟩
 unfold vlP
 have s:=hc.start m
 have t:=Ve (hc.inn.take k) s.1 s.2
 have e:X6 (mp rs j k) q.1=X6 (rs.take k) (X6 (rep j rs) q.1):=by unfold mp;rw[YT]
 have e2:(mp rs j k).map sgB=(rep j rs).map sgB++(rs.take k).map sgB:=by unfold mp;rw[List.map_append]
 rw[e2,YV,e]
 exact CF.run (hc.inn.take k).sg (KE hc hx j) _ t.1 t.2
theorem II (hc:Cyc n rs ss)(hg:Cg (P:Int) (f*g) 1)(hC:∀i q j k,At ss i q j->Cg (P:Int) (C (Arc rs ss i q (mp rs j k))) (Zg f g ((rs.take k).map sgB) x (X6 (mp rs j k) q.1)))(k:Nat):EqK (P:Int) f rs ss C k:=λr hr i q j i' q' j' m m' e e'=>by
 have a:=hC i q j k m
 have b:=hC i' q' j' k m'
 have a1:=hC i q j (k+1) m
 have b1:=hC i' q' j' (k+1) m'
 have s1:(sgB r).1=r.1:=rfl
 have s2:(sgB r).2=decide (0<r.2):=rfl
 have lo:=VI (f:=f) (g:=g) (r:=sgB r) (x:=Zg f g ((rs.take k).map sgB) x)
 have hi:=VJ (f:=f) (g:=g) (r:=sgB r) (x:=Zg f g ((rs.take k).map sgB) x)
 rw[s1,s2] at lo hi
 rw[KJ hr,ZS,Qn hr,QU,e,Uf rfl,hi] at a1
 rw[KJ hr,ZS,Qn hr,QU,e',Uj rfl,lo] at b1
 rw[e] at a
 rw[e'] at b
 rw[Qn hr,Qn hr]
 constructor
 ·intro hpos
  rw[if_pos (decide_eq_true hpos)] at b1
  exact(((Cg.refl _ f).mul b).add ((Cg.refl _ (1-f)).mul a)).trans b1.symm
 ·intro hneg
  rw[if_neg (by rw[decide_eq_true_eq];omega)] at a1
  generalize C (Arc rs ss i q (mp rs j k++[r]))=u at a1
  generalize C (Arc rs ss i q (mp rs j k))=v at a
  generalize C (Arc rs ss i' q' (mp rs j' k))=w at b
  generalize Zg f g ((rs.take k).map sgB) x r.1=X at a a1
  generalize Zg f g ((rs.take k).map sgB) x (r.1+1)=Y at b a1
  obtain⟨a,ha⟩:=a
  obtain⟨b,hb⟩:=b
  obtain⟨c,hcc⟩:=a1
  obtain⟨z,hz⟩:=hg
  exact⟨f*c+(1-f)*b-a+z*(X-(1-f)*Y),by grind⟩
theorem EqK.congr {C':Int->Int}(h:EqK (P:Int) f rs ss C k)(hC:CF (P:Int) (Xt (wks rs ss)) C C'):EqK (P:Int) f rs ss C' k:=λr hr i q j i' q' j' m m' e e'=>by
 have cc:∀{i q j k},At ss i q j->Cg (P:Int) (C (Arc rs ss i q (mp rs j k))) (C' (Arc rs ss i q (mp rs j k))):=fun {i q j k} m=>hC _ (KS m.wi).1 (KS m.wi).2
 obtain⟨h1,h2⟩:=h r hr i q j i' q' j' m m' e e'
 exact⟨λz=>(((Cg.refl _ f).mul (cc m')).add ((Cg.refl _ (1-f)).mul (cc m))).symm.trans ((h1 z).trans (cc m')),λz=>(((Cg.refl _ f).mul (cc m)).add ((Cg.refl _ (1-f)).mul (cc m'))).symm.trans ((h2 z).trans (cc m))⟩
theorem Hv {K:Nat}{e:Nat->Nat->Int}(hP:0<P)(hc:Cyc n rs ss)(hg:Cg (P:Int) (f*g) 1)(hK:Xt (wks rs ss)=(K:Int))(he:∀c:List Int,(∀k,k<rs.length->Kil (P:Int) K (e k) λj=>c.getD j 0)↔∀k,k<rs.length->EqK (P:Int) f rs ss (toF c) k):(Sol P K rs.length e).length=(Q9 P n f g (rs.map sgB)).length:=by
 have e0:∀j,mp rs j 0=rep j rs:=λj=>by unfold mp;rw[List.take_zero,List.append_nil]
 -- where a place lies
 have kM:∀z:Int,∃v:Nat×(Int×Nat)×Nat,0<=z->z<(n:Int)->At ss v.1 v.2.1 v.2.2/\X6 (mp rs v.2.2 0) v.2.1.1=z:=λz=>by
  by_cases c:0<=z/\z<(n:Int)
  ·obtain⟨i,q,j,m,ee⟩:=hc.at_ex 0 c.1 c.2
   exact⟨(i,q,j),λ_ _=>⟨m,ee⟩⟩
  ·exact⟨(0,(0,0),0),λa b=>absurd ⟨a,b⟩ c⟩
 obtain⟨M,hM⟩:=Classical.axiomOfChoice kM
 refine Nat.le_antisymm ?_ ?_
 ·have hX:∀(c:List Int),∃X:Int->Int,∀i q j,At ss i q j->Cg (P:Int) (X (X6 (rep j rs) q.1)) (toF c (Arc rs ss i q (mp rs j 0))):=λc=>by
   refine⟨λz=>toF c (Arc rs ss (M z).1 (M z).2.1 (mp rs (M z).2.2 0)),λi q j m=>?_⟩
   have s:=hc.start m
   obtain⟨m2,e2⟩:=hM _ s.1 s.2
   obtain⟨g1,g2,g3⟩:=hc.at_eq 0 m m2 (by rw[e2,e0])
   exact Cg.of (by
    show toF c (Arc rs ss (M _).1 (M _).2.1 (mp rs (M _).2.2 0))=_
    rw[←g1, ←g2, ←g3])
  obtain⟨X,hX⟩:=Classical.axiomOfChoice hX
  have:=Ju (l:=(Sol P K rs.length e).map λc=>rdF P n (X c)) (m:=Q9 P n f g (rs.map sgB)) (ZC (λc d hcs hds q=>?_) Ef) λy hy=>?_
  ·rwa [List.length_map] at this
  ·obtain⟨c1,c2⟩:=Qd.mp hcs
   obtain⟨d1,d2⟩:=Qd.mp hds
   refine KM c1 d1 λa a0 a1=>?_
   obtain⟨i,qq,j,k,m,hk,rfl⟩:=IY hc a0 (by rw[hK];exact a1)
   have p1:=phi hc hg ((he c).mp c2) (hX c) k hk i qq j m
   have p2:=phi hc hg ((he d).mp d2) (hX d) k hk i qq j m
   have cx:CF (P:Int) (n:Int) (X c) (X d):=by
    refine(QY _).symm.trans ?_
    rw[q]
    exact QY _
   have s:=hc.start m
   have t:=Ve (hc.inn.take k) s.1 s.2
   have e1:X6 (mp rs j k) qq.1=X6 (rs.take k) (X6 (rep j rs) qq.1):=by unfold mp;rw[YT]
   rw[e1] at p1 p2
   exact p1.symm.trans ((CF.run (hc.inn.take k).sg cx _ t.1 t.2).trans p2)
  ·obtain⟨c,hcs,rfl⟩:=List.mem_map.mp hy
   obtain⟨c1,c2⟩:=Qd.mp hcs
   refine Zs.mpr ⟨Da hP _,?_⟩
   have t:=QY (P:=P) (n:=n) (X c)
   exact(CF.run hc.inn.sg t).trans ((EM hc hg ((he c).mp c2) (hX c)).trans t.symm)
 ·have hY:∀y:List Int,∃C:Int->Int,y∈Q9 P n f g (rs.map sgB)->∀i q j k,At ss i q j->Cg (P:Int) (C (Arc rs ss i q (mp rs j k))) (Zg f g ((rs.take k).map sgB) (toF y) (X6 (mp rs j k) q.1)):=λy=>by
   by_cases c:y∈Q9 P n f g (rs.map sgB)
   ·obtain⟨C,h⟩:=psi hc (Zs.mp c).2
    exact⟨C,λ_=>h⟩
   ·exact⟨λ_=>0,λz=>absurd z c⟩
  obtain⟨Y,hY⟩:=Classical.axiomOfChoice hY
  have:=Ju (l:=(Q9 P n f g (rs.map sgB)).map λy=>rdF P K (Y y)) (m:=Sol P K rs.length e) (ZC (λc d hcs hds q=>?_) Ft) λy hy=>?_
  ·rwa [List.length_map] at this
  ·refine KM (Zs.mp hcs).1 (Zs.mp hds).1 λz z0 z1=>?_
   obtain⟨i,qq,j,m,ee⟩:=hc.at_ex 0 z0 z1
   have p1:=hY c hcs i qq j 0 m
   have p2:=hY d hds i qq j 0 m
   rw[ee] at p1 p2
   have cx:CF (P:Int) (K:Int) (Y c) (Y d):=by
    refine(QY _).symm.trans ?_
    rw[q]
    exact QY _
   have r:=KS (rs:=rs) (p:=mp rs j 0) m.wi
   exact p1.symm.trans ((cx _ r.1 (by rw[←hK];exact r.2)).trans p2)
  ·obtain⟨c,hcs,rfl⟩:=List.mem_map.mp hy
   refine Qd.mpr ⟨Da hP _,(he _).mpr λk _=>(II hc hg (hY c hcs) k).congr ?_⟩
   rw[hK]
   exact(QY _).symm
end
noncomputable def Z7 (ws:List (List Int))(i:Nat)(w:List Int)(j:Nat):Int:=Xt (ws.take i)+(X3 (w.take j):Int) % (ZA w:Int)
theorem EW (w:List Int):(X3 w:Int) % (ZA w:Int)=0:=by
 by_cases z:X3 w=0
 ·rw[z];simp
 ·have:(ZA w:Int)=(X3 w:Int):=by unfold ZA;omega
  rw[this,Int.emod_self]
theorem Ut {w:List Int}{f:Int}{j:Nat}(h:j<w.length):(Zr w f)[j]?=some (f+(X3 (w.take j):Int) % (ZA w:Int)):=V0 w f (by omega)
theorem DR {w:List Int}{f:Int}{j:Nat}(h:j<w.length):(Zr w f)[(j+1) % w.length]?=some (f+(X3 (w.take (j+1)):Int) % (ZA w:Int)):=by
 by_cases c:j+1<w.length
 ·rw[Nat.mod_eq_of_lt c,Ut c]
 ·have e:j+1=w.length:=by omega
  rw[e,Nat.mod_self,Ut (by omega),List.take_length,EW,List.take_zero]
  congr 2
theorem FV {D:List (List Int)×List (Int×Int)}(h:DG D):∃v:Int×Int->Int×Int×Int×Int×Int,Zn D= .ok (D.2.map v)/\∀e∈D.2,∃(i j k l:Nat) (w w':List Int),Spot D.1 e.1 i j w/\Spot D.1 (-e.1) k l w'/\v e=(e.1,e.2,Z7 D.1 i w j,Z7 D.1 k w' l,Z7 D.1 k w' (l+1)):=by
 have key:∀e:Int×Int,∃v:Int×Int×Int×Int×Int,e∈D.2->∃(i j k l:Nat) (w w':List Int),Spot D.1 e.1 i j w/\Spot D.1 (-e.1) k l w'/\v=(e.1,e.2,Z7 D.1 i w j,Z7 D.1 k w' l,Z7 D.1 k w' (l+1)):=λe=>by
  by_cases he:e∈D.2
  ·obtain⟨i,j,w,s1⟩:=Vh (h.mem e he).1
   obtain⟨k,l,w',s2⟩:=Vh (h.mem e he).2
   exact⟨_,λ_=>⟨i,j,k,l,w,w',s1,s2,rfl⟩⟩
  ·exact⟨(0,0,0,0,0),λz=>absurd z he⟩
 obtain⟨v,hv⟩:=Classical.axiomOfChoice key
 refine⟨v,?_,λe he=>hv e he⟩
 unfold Zn
 simp only[Rs.okb]
 rw[Dw h.few h.short,XB]
 simp only[Rs.okb]
 rw[Qi (h:=v) (sz (by have:=h.le;simp;omega)) λg hg e he=>?_]
 ·rw[Rs.okb,List.nil_append]
 ·obtain⟨i,j,k,l,w,w',s1,s2,ev⟩:=hv e he
  have hj:=(List.getElem?_eq_some_iff.mp s1.xj).1
  have hl:=(List.getElem?_eq_some_iff.mp s2.xj).1
  have h1:=Qs s1.wi 0
  have h3:=Qs s2.wi 0
  rw[Int.zero_add] at h1 h3
  have hlen:(Zr w' (Xt (D.1.take k))).length=w'.length:=by rw[Z4];omega
  have hm:((l:Int)+1) % ((Zr w' (Xt (D.1.take k))).length:Int)=(((l+1) % w'.length:Nat):Int):=by rw[hlen,Int.natCast_emod];rfl
  rw[UM s1,UM s2,XB,XB]
  simp only[Rs.okb]
  rw[YA h1,YA h3]
  simp only[Rs.okb]
  rw[YA (Ut hj),YA (Ut hl)]
  simp only[Rs.okb]
  rw[XN (by rw[hlen];omega),hm]
  simp only[Rs.okb]
  rw[YA (DR hl)]
  simp only[Rs.okb]
  rw[Xv hg,ev]
  rfl
theorem Us {ws:List (List Int)}{x:Int}{i j i' j':Nat}{w w':List Int}(nd:ws.flatten.Nodup)(h:ws[i]?=some w)(hx:w[j]?=some x)(s:Spot ws x i' j' w'):i'=i/\j'=j/\w'=w:=by
 rw[List.nodup_iff_pairwise_ne,List.pairwise_flatten] at nd
 obtain⟨n1,n2⟩:=nd
 obtain⟨l1,g1⟩:=List.getElem?_eq_some_iff.mp h
 obtain⟨l2,g2⟩:=List.getElem?_eq_some_iff.mp s.wi
 have hi:i'=i:=by
  rcases Nat.lt_trichotomy i' i with c |c |c
  ·have:=List.pairwise_iff_getElem.mp n2 i' i l2 l1 c
   rw[g1,g2] at this
   exact absurd rfl (this x (List.mem_of_getElem? s.xj) x (List.mem_of_getElem? hx))
  ·exact c
  ·have:=List.pairwise_iff_getElem.mp n2 i i' l1 l2 c
   rw[g1,g2] at this
   exact absurd rfl (this x (List.mem_of_getElem? hx) x (List.mem_of_getElem? s.xj))
 subst hi
 have hw:w'=w:=g2.symm.trans g1
 subst hw
 refine⟨rfl,?_,rfl⟩
 have nw:=n1 w' (List.mem_of_getElem? h)
 obtain⟨k1,e1⟩:=List.getElem?_eq_some_iff.mp hx
 obtain⟨k2,e2⟩:=List.getElem?_eq_some_iff.mp s.xj
 rcases Nat.lt_trichotomy j' j with c |c |c
 ·exact absurd (e2.trans e1.symm) (List.pairwise_iff_getElem.mp nw j' j k2 k1 c)
 ·exact c
 ·exact absurd (e1.trans e2.symm) (List.pairwise_iff_getElem.mp nw j j' k1 k2 c)
section
variable {rs:List (Int×Int)}{ss:List (Int×Nat)}{P n:Nat}{f g:Int}{i i' j j' k:Nat}{q q':Int×Nat}
theorem occ {r:Int×Int}{v:Int}(hr:rs[k]?=some r)(m:At ss i q j)(hv:JE r (X6 (mp rs j k) q.1)=[v]):(QO rs q)[(Yz (mp rs j k) q.1).length]?=some v/\(QO rs q).take (Yz (mp rs j k) q.1).length=Yz (mp rs j k) q.1/\(QO rs q).take ((Yz (mp rs j k) q.1).length+1)=Yz (mp rs j (k+1)) q.1:=by
 obtain⟨d,hd⟩:=BZ (rs:=rs) (k:=k+1) m.lt
 have e:QO rs q=Yz (mp rs j k) q.1++v::Yz d (X6 (mp rs j (k+1)) q.1):=by
  unfold QO
  rw[←hd,JQ,Qn hr,QT,hv,List.append_assoc];rfl
 refine⟨by rw[e];simp,by rw[e,List.take_left' rfl],?_⟩
 rw[Qn hr,QT,hv,e,List.take_append,List.take_of_length_le (by omega)]
 simp
structure Cl (n:Nat)(rs:List (Int×Int))(ss:List (Int×Nat))(D:List (List Int)×List (Int×Int)):Prop where
 cyc:Cyc n rs ss
 ws:D.1=wks rs ss
 len:D.2.length=rs.length
 val:∀(k:Nat) r e,rs[k]?=some r->D.2[k]?=some e->1<=e.1/\(e.2=1∨e.2= -1)/\r.2=e.1*e.2
 nd:D.1.flatten.Nodup
theorem Ca {D:List (List Int)×List (Int×Int)}(h:Cl n rs ss D){r e:Int×Int}(hr:rs[k]?=some r)(he:D.2[k]?=some e)(m:At ss i q j)(m':At ss i' q' j')(e1:X6 (mp rs j k) q.1=r.1)(e2:X6 (mp rs j' k) q'.1=r.1+1){a b c d:Nat}{w w':List Int}(s1:Spot D.1 e.1 a b w)(s2:Spot D.1 (-e.1) c d w'):
  (e.2=1->Z7 D.1 a w b=Arc rs ss i q (mp rs j k)/\Z7 D.1 c w' d=Arc rs ss i' q' (mp rs j' k)/\Z7 D.1 c w' (d+1)=Arc rs ss i' q' (mp rs j' (k+1)))/\
  (e.2= -1->Z7 D.1 a w b=Arc rs ss i' q' (mp rs j' k)/\Z7 D.1 c w' d=Arc rs ss i q (mp rs j k)/\Z7 D.1 c w' (d+1)=Arc rs ss i q (mp rs j (k+1))):=by
 obtain⟨v1,v2,v3⟩:=h.val k r e hr he
 obtain⟨o1,o2,o3⟩:=occ hr m (Ul e1)
 obtain⟨p1,p2,p3⟩:=occ hr m' (Ur e2)
 have g1:D.1[i]?=some (QO rs q):=by rw[h.ws];exact Jk m.wi
 have g2:D.1[i']?=some (QO rs q'):=by rw[h.ws];exact Jk m'.wi
 constructor
 ·intro s
  rw[s,Int.mul_one] at v3
  rw[v3] at o1 p1
  obtain⟨rfl,rfl,rfl⟩:=Us h.nd g1 o1 s1
  obtain⟨rfl,rfl,rfl⟩:=Us h.nd g2 p1 s2
  unfold Z7 Arc
  rw[o2,p2,p3,h.ws]
  exact⟨rfl,rfl,rfl⟩
 ·intro s
  have v3:r.2= -e.1:=by rw[v3,s];omega
  rw[v3] at o1 p1
  rw[Int.neg_neg] at p1
  obtain⟨rfl,rfl,rfl⟩:=Us h.nd g1 o1 s2
  obtain⟨rfl,rfl,rfl⟩:=Us h.nd g2 p1 s1
  unfold Z7 Arc
  rw[o2,p2,o3,h.ws]
  exact⟨rfl,rfl,rfl⟩
theorem Lf {K:Nat}{p:Int}{t:Int×Int×Int}(c:List Int)(a:0<=t.1/\t.1<(K:Int))(b:0<=t.2.1/\t.2.1<(K:Int))(d:0<=t.2.2/\t.2.2<(K:Int)):Kil p K (λj=>cfT f t j % p) (λj=>c.getD j 0)↔Cg p (f*toF c t.1+(1-f)*toF c t.2.1) (toF c t.2.2):=by
 have e2:Cg p (QB K λj=>cfT f t j % p*c.getD j 0) (f*toF c t.1+(1-f)*toF c t.2.1-toF c t.2.2):=by
  have:=IU (f:=f) (λj=>c.getD j 0) a b d
  show Cg p _ (f*c.getD t.1.toNat 0+(1-f)*c.getD t.2.1.toNat 0-c.getD t.2.2.toNat 0)
  rw[←this]
  exact Jw K λj _=>Cg.mul (Cg.emod _ _) (Cg.refl _ _)
 unfold Kil
 constructor
 ·intro h
  have:=e2.symm.trans h
  unfold Cg at this⊢
  rwa [Int.sub_zero] at this
 ·intro h
  refine e2.trans ?_
  unfold Cg at h⊢
  rwa [Int.sub_zero]
theorem GW {D:List (List Int)×List (Int×Int)}{K:Nat}{v:Int×Int->Int×Int×Int×Int×Int}(hP:0<P)(hg:Cg (P:Int) (f*g) 1)(h:Cl n rs ss D)(hK:Xt D.1=(K:Int))(hm:∀x∈D.2.map v,MG (K:Int) x)(hv:∀e∈D.2,∃(i j k l:Nat) (w w':List Int),Spot D.1 e.1 i j w/\Spot D.1 (-e.1) k l w'/\v e=(e.1,e.2,Z7 D.1 i w j,Z7 D.1 k w' l,Z7 D.1 k w' (l+1))):
  (Sol P K (D.2.map v).length λk j=>cfT f (((D.2.map v).map Za).getD k (0,0,0)) j % (P:Int)).length=(Q9 P n f g (rs.map sgB)).length:=by
 rw[List.length_map,h.len]
 refine Hv hP h.cyc hg (by rw[←h.ws];exact hK) λc=>?_
 refine forall_congr' λk=>?_
 refine forall_congr' λhk=>?_
 obtain⟨r,hr⟩:∃r,rs[k]?=some r:=⟨_,List.getElem?_eq_getElem hk⟩
 obtain⟨e,he⟩:∃e,D.2[k]?=some e:=⟨_,List.getElem?_eq_getElem (by rw[h.len];exact hk)⟩
 have hem:=List.mem_of_getElem? he
 have ht:((D.2.map v).map Za).getD k (0,0,0)=Za (v e):=by
  rw[List.getD_eq_getElem?_getD,List.getElem?_map,List.getElem?_map,he];rfl
 rw[ht]
 obtain⟨a,b,d⟩:=Ek (hm (v e) (List.mem_map.mpr ⟨e,hem,rfl⟩))
 rw[Lf c a b d]
 obtain⟨i1,j1,k1,l1,w,w',s1,s2,ev⟩:=hv e hem
 obtain⟨v1,v2,v3⟩:=h.val k r e hr he
 have hn:=h.cyc.inn r (List.mem_of_getElem? hr)
 have sg:(v e).2.1=e.2:=by rw[ev]
 constructor
 ·intro hh r' hr' i q j i' q' j' m m' p1 p2
  have hrr:r'=r:=Option.some.inj (hr'.symm.trans hr)
  subst hrr
  have ma:=Ca h hr he m m' p1 p2 s1 s2
  constructor
  ·intro z
   have e1:e.2=1:=by
    rcases v2 with y |y
    ·exact y
    ·rw[v3,y] at z;omega
   obtain⟨x1,x2,x3⟩:=ma.1 e1
   unfold Za at hh
   rw[sg,if_pos e1,ev] at hh
   simp only[x1,x2,x3] at hh
   exact hh
  ·intro z
   have e1:e.2= -1:=by
    rcases v2 with y |y
    ·rw[v3,y] at z;omega
    ·exact y
   obtain⟨x1,x2,x3⟩:=ma.2 e1
   unfold Za at hh
   rw[sg,if_neg (by omega),ev] at hh
   simp only[x1,x2,x3] at hh
   exact hh
 ·intro hh
  obtain⟨i,q,j,m,p1⟩:=h.cyc.at_ex k (z:=r.1) hn.1 (by omega)
  obtain⟨i',q',j',m',p2⟩:=h.cyc.at_ex k (z:=r.1+1) (by omega) hn.2
  have ma:=Ca h hr he m m' p1 p2 s1 s2
  have hh:=hh r hr i q j i' q' j' m m' p1 p2
  unfold Za
  rw[sg,ev]
  rcases v2 with y |y
  ·obtain⟨x1,x2,x3⟩:=ma.1 y
   rw[if_pos y]
   simp only[x1,x2,x3]
   exact hh.1 (by rw[v3,y];omega)
  ·obtain⟨x1,x2,x3⟩:=ma.2 y
   rw[if_neg (by omega)]
   simp only[x1,x2,x3]
   exact hh.2 (by rw[v3,y];omega)
end
noncomputable def YB (word:List (Int×Int))(step:Int):List (Int×Int):=(List.range word.length).map λ(k:Nat)=>((word.getD k (0,0)).1,(1+(k:Int)*step)*(word.getD k (0,0)).2)
noncomputable def QF (word:List (Int×Int))(step:Int):List (Int×Int):=(List.range word.length).map λ(k:Nat)=>(1+(k:Int)*step,(word.getD k (0,0)).2)
structure Wd (S:Nat)(word:List (Int×Int)):Prop where
 le:word.length<=50
 inn:∀r∈word,0<=r.1/\r.1+1<(S:Int)
 sg:∀r∈word,r.2=1∨r.2= -1
section
variable {word:List (Int×Int)}{step:Int}{S:Nat}
theorem JO {k:Nat}(h:k<word.length):word.getD k (0,0)∈word:=by rw[Yx h];exact List.getElem_mem _
theorem Z9:(YB word step).length=word.length:=by simp[YB]
theorem Vf {k:Nat}(h:k<word.length):(YB word step)[k]?=some (word[k].1,(1+(k:Int)*step)*word[k].2):=by
 unfold YB
 rw[List.getElem?_map,List.getElem?_range h]
 simp[h]
theorem JK (h:1<=step)(k:Nat):1<=1+(k:Int)*step:=by
 have:(0:Int)<=(k:Int)*step:=Int.mul_nonneg (by omega) (by omega)
 omega
theorem Wd.rows (h:Wd S word):InR S (YB word step):=λr hr=>by
 obtain⟨k,hk,rfl⟩:=List.mem_map.mp hr
 exact h.inn (word.getD k (0,0)) (JO (List.mem_range.mp hk))
theorem Wd.nz (h:Wd S word)(hs:1<=step):∀r∈YB word step,r.2≠0:=λr hr=>by
 obtain⟨k,hk,rfl⟩:=List.mem_map.mp hr
 have h1:=JK hs k
 show(1+(k:Int)*step)*(word.getD k (0,0)).2≠0
 rcases h.sg _ (JO (List.mem_range.mp hk)) with e |e<;> rw[e]<;> omega
theorem Hg (h:Wd S word)(hs:1<=step):(YB word step).map sgB=word.map sgB:=by
 refine List.ext_getElem (by simp[YB]) λk h1 h2=>?_
 have hk:k<word.length:=by simpa using h2
 have e:(YB word step)[k]'(by rw[Z9];exact hk)=(word[k].1,(1+(k:Int)*step)*word[k].2):=by
  have:=Vf (step:=step) hk
  rw[List.getElem?_eq_getElem (by rw[Z9];exact hk)] at this
  exact Option.some.inj this
 rw[List.getElem_map,List.getElem_map,e]
 unfold sgB
 have h1:=JK hs k
 rcases h.sg _ (List.getElem_mem hk) with z |z<;> rw[z]
 ·rw[Int.mul_one,decide_eq_true (by omega),decide_eq_true (by omega)]
 ·rw[decide_eq_false (by omega),decide_eq_false (by omega)]
theorem KU:∀(rs:List (Int×Int)) (a:Int),(Yz rs a).length<=rs.length
 | [],_=>Nat.le_refl _
 |r::rs,a=>by
  show(JE r a++Yz rs (Qf r a)).length<=_
  have h1:(JE r a).length<=1:=by
   unfold JE
   split
   ·simp
   ·split<;> simp
  have:=KU rs (Qf r a)
  simp only[List.length_append,List.length_cons]
  omega
noncomputable def Zb (rs:List (Int×Int))(s:Int)(L:Nat):List Int:=(List.range L).map λj=>X6 (rep j rs) s
theorem U0 (rs:List (Int×Int))(s:Int)(L:Nat):Zb rs s (L+1)=Zb rs s L++[X6 (rep L rs) s]:=by
 unfold Zb
 rw[List.range_succ,List.map_append];rfl
theorem Q8 {rs:List (Int×Int)}{s z:Int}{L:Nat}:z∈Zb rs s L↔∃j,j<L/\X6 (rep j rs) s=z:=by
 unfold Zb
 rw[List.mem_map]
 constructor
 ·rintro⟨j,hj,e⟩;exact⟨j,List.mem_range.mp hj,e⟩
 ·rintro⟨j,hj,e⟩;exact⟨j,List.mem_range.mpr hj,e⟩
theorem Et {st:Nat}{seen:List Bool}{ps:List Int}(hw:Wd S word)(hS:S<=100)(h0:st<S)(hl:seen.length=S)(hf:seen[st]?=some false)(hd:Done (S:Int) seen ps)(hcl:∀z,X6 (YB word step) z∈ps->z∈ps):
  Ok (V1 word (S:Int) (st:Int) step seen) λa=>∃ L,1<=L/\a.1=Yz (rep L (YB word step)) (st:Int)/\X6 (rep L (YB word step)) (st:Int)=(st:Int)/\a.2.length=S/\Done (S:Int) a.2 (ps++Zb (YB word step) (st:Int) L)/\a.2[st]?=some true/\∀q:Nat,seen[q]?=some true->a.2[q]?=some true:=by
 have hrs:=hw.rows (step:=step)
 have hlen:=Z9 (word:=word) (step:=step)
 have hle:=hw.le
 generalize hR:YB word step=rs at hrs hlen hcl⊢
 unfold V1
 simp only[Rs.okb]
 refine Ok.bind (GA (λg:List Bool×Int×List Int=>∃ t,g.1.length=S/\g.2.1=X6 (rep t rs) (st:Int)/\g.2.2=Yz (rep t rs) (st:Int)/\Done (S:Int) g.1 (ps++Zb rs (st:Int) t)/\(∀q:Nat,seen[q]?=some true->g.1[q]?=some true)/\(t=0->g.1=seen)/\(1<=t->g.1[st]?=some true)/\g.2.2.length+100*g.1.count false<=100*S) (λg=>g.1.count false) (λg hg=>?_) _ (seen,(st:Int),[]) ⟨0,hl,rfl,rfl,by
  show Done _ seen (ps++[])
  rw[List.append_nil];exact hd,λq h=>h,λ_=>rfl,λh=>by omega,by
  have:seen.count false<=seen.length:=List.count_le_length
  show 0+100*seen.count false<=100*S
  omega⟩ ?_) λg hg=>?_
 ·obtain⟨t,w1,w2,w3,w4,w5,w6,w7,w8⟩:=hg
  have pin:=Ve (hrs.rep t) (show(0:Int)<=(st:Int) by omega) (show(st:Int)<(S:Int) by omega)
  rw[←w2] at pin
  obtain⟨p,hp⟩:∃p:Nat,g.2.1=(p:Int):=⟨g.2.1.toNat,by omega⟩
  have hpl:p<g.1.length:=by omega
  rw[Zc hp hpl]
  refine⟨_,rfl,λhf'=>?_⟩
  have hf':g.1[p]=false:=by simpa using hf'
  have hfs:g.1[p]?=some false:=by simp[hpl,hf']
  rw[hp,UH hpl]
  simp only[Rs.okb]
  rw[J1 (by omega)]
  simp only[Rs.okb]
  refine Ok.bind (Ok.forN (λk (h:Int×List Int)=>h.1=X6 (rs.take k) (p:Int)/\h.2=g.2.2++Yz (rs.take k) (p:Int)) ⟨rfl,by rw[List.take_zero];exact(List.append_nil _).symm⟩ λk b h hb' hh=>?_) λh hh=>?_
  ·obtain⟨rfl,hk⟩:=Qe hb'
   obtain⟨e1,e2⟩:=hh
   have hq:=Vf (step:=step) hk
   rw[hR] at hq
   have hts:rs.take (k+1)=rs.take k++[(word[k].1,(1+(k:Int)*step)*word[k].2)]:=by rw[List.take_add_one,hq];rfl
   rw[hts,QU,QT, ←e1]
   rw[Zc (n:=k) rfl hk]
   simp only[Rs.okb]
   have hsg:=hw.sg _ (List.getElem_mem hk)
   have hlen:h.2.length<sizeLine:=HL (by
    have:=KU (rs.take k) (p:Int)
    rw[List.length_take] at this
    rw[e2,List.length_append];omega)
   rw[Yv (a:=(k:Int)) (by omega) (by omega)]
   simp only[Rs.okb]
   rw[Ji (a:=1+(k:Int)*step) (by omega) (by omega),Ji (a:=-(1+(k:Int)*step)) (by omega) (by omega)]
   simp only[Rs.okb]
   rw[Xv hlen,Xv hlen]
   generalize word[k].1=low
   by_cases c1:h.1=low
   ·rw[if_pos (decide_eq_true c1)]
    simp only[Rs.okb]
    refine⟨_,rfl,?_,?_⟩
    ·rw[Uf c1]
    ·rw[Ul c1,e2,List.append_assoc]
   ·rw[if_neg (by rw[decide_eq_false c1];exact Bool.false_ne_true)]
    by_cases c2:h.1=low+1
    ·rw[if_pos (decide_eq_true c2)]
     simp only[Rs.okb]
     refine⟨_,rfl,?_,?_⟩
     ·rw[Uj c2]
     ·rw[Ur c2,e2,List.append_assoc,Int.neg_mul]
    ·rw[if_neg (by rw[decide_eq_false c2];exact Bool.false_ne_true)]
     simp only[Rs.okb]
     refine⟨_,rfl,?_,?_⟩
     ·rw[Dm c1 c2]
     ·rw[Dn c1 c2,List.append_nil,e2]
  ·rw[Qj, ←hlen,List.take_length] at hh
   obtain⟨e1,e2⟩:=hh
   have hct:=UY hfs
   have hcl':=KU rs (p:Int)
   refine⟨_,rfl,⟨t+1,?_,?_,?_,?_,λq hq=>Ua (w5 q hq),λz=>by omega,λ_=>?_,?_⟩,?_⟩
   ·show(g.1.set p true).length=S
    rw[List.length_set];exact w1
   ·show h.1=_
    rw[e1,YR,YT, ←w2,hp]
   ·show h.2=_
    rw[e2,YR,JQ, ←w2,hp,w3]
   ·show Done _ (g.1.set p true) _
    rw[U0, ←List.append_assoc, ←w2,hp]
    have:=w4.snoc (a:=(p:Int)) (by omega) (by omega) (by rw[Int.toNat_natCast];exact hfs)
    rwa [Int.toNat_natCast] at this
   ·show(g.1.set p true)[st]?=some true
    by_cases z:t=0
    ·subst z
     have w2:g.2.1=(st:Int):=w2
     have:p=st:=by omega
     subst this
     rw[List.getElem?_set_self hpl]
    ·exact Ua (w7 (by omega))
   ·show h.2.length+100*(g.1.set p true).count false<=100*S
    rw[e2,List.length_append];omega
   ·show(g.1.set p true).count false<g.1.count false
    omega
 ·have:seen.count false<=seen.length:=List.count_le_length
  show seen.count false<(S:Int).natAbs+2
  omega
 ·obtain⟨⟨t,w1,w2,w3,w4,w5,w6,w7,w8⟩,hc⟩:=hg
  have pin:=Ve (hrs.rep t) (show(0:Int)<=(st:Int) by omega) (show(st:Int)<(S:Int) by omega)
  rw[←w2] at pin
  obtain⟨p,hp⟩:∃p:Nat,g.2.1=(p:Int):=⟨g.2.1.toNat,by omega⟩
  have hpl:p<g.1.length:=by omega
  rw[Zc hp hpl,Rs.okb] at hc
  have hc':g.1[p]=true:=by
   have:=Rs.ok.inj hc
   simpa using this
  have ht:1<=t:=by
   refine Classical.byContradiction λz=>?_
   have z:t=0:=by omega
   have e:=w6 z
   subst z
   have w2:g.2.1=(st:Int):=w2
   have:p=st:=by omega
   subst this
   rw[←e,List.getElem?_eq_getElem hpl,hc'] at hf
   cases hf
  have hmem:(p:Int)∈ps++Zb rs (st:Int) t:=w4.of p (by rw[List.getElem?_eq_getElem hpl,hc'])
  have hback:X6 rs (X6 (rep (t-1) rs) (st:Int))=(p:Int):=by
   rw[←hp,w2, ←YT, ←YR,show t-1+1=t by omega]
  have hprev:X6 (rep (t-1) rs) (st:Int)∈Zb rs (st:Int) t:=Q8.mpr ⟨t-1,by omega,rfl⟩
  have nd:=w4.nd
  rw[List.nodup_append] at nd
  have hstart:X6 (rep t rs) (st:Int)=(st:Int):=by
   rw[←w2,hp]
   rcases List.mem_append.mp hmem with z |z
   ·have:=hcl _ (by rw[hback];exact z)
    exact absurd rfl (nd.2.2 _ this _ hprev)
   ·obtain⟨j,hj,e⟩:=Q8.mp z
    cases j with
    |zero=>exact e.symm
    |succ j=>
     rw[YR,YT, ←hback] at e
     have e:=QS e
     have nr:=nd.2.1
     unfold Zb at nr
     have:=List.pairwise_iff_getElem.mp (List.nodup_iff_pairwise_ne.mp nr) j (t-1) (by simp;omega) (by simp;omega) (by omega)
     simp only[List.getElem_map,List.getElem_range] at this
     exact absurd e this
  exact⟨_,rfl,t,ht,w3,hstart,w1,w4,w7 ht,w5⟩
end
noncomputable def zOf (rs:List (Int×Int))(ss:List (Int×Nat)):List Int:=ss.flatMap λq=>Zb rs q.1 q.2
section
variable {word:List (Int×Int)}{step:Int}{S:Nat}{rs:List (Int×Int)}{ss:List (Int×Nat)}
theorem CG (rs:List (Int×Int))(s:Int):∀L:Nat,Yz (rep L rs) s=(Zb rs s L).flatMap (Yz rs)
 |0=>rfl
 |L+1=>by rw[YR,JQ,CG rs s L,U0,List.flatMap_append];simp
theorem Gp (rs:List (Int×Int)):∀ss:List (Int×Nat),(wks rs ss).flatten=(zOf rs ss).flatMap (Yz rs)
 | []=>rfl
 |q::ss=>by
  show QO rs q++(wks rs ss).flatten=(Zb rs q.1 q.2++zOf rs ss).flatMap (Yz rs)
  rw[List.flatMap_append,Gp rs ss]
  unfold QO
  rw[CG]
theorem Bo {xs:List Int}(h1:∀x∈xs,1<=x)(h2:xs.Nodup):(xs.flatMap λx=>[x,-x]).Nodup:=by
 rw[List.nodup_iff_pairwise_ne,List.pairwise_flatMap]
 refine⟨λx hx=>?_,?_⟩
 ·have:=h1 x hx
  simp;omega
 ·refine List.Pairwise.imp_of_mem (fun {a b} ha hb hne x hx y hy=>?_) (List.nodup_iff_pairwise_ne.mp h2)
  have:=h1 a ha
  have:=h1 b hb
  simp only[List.mem_cons,List.not_mem_nil,or_false] at hx hy
  rcases hx with rfl |rfl<;> rcases hy with rfl |rfl<;> omega
theorem EL (hw:Wd S word)(step:Int):((YB word step).flatMap λr=>[r.2,-r.2]).Perm (((QF word step).map Prod.fst).flatMap λx=>[x,-x]):=by
 unfold YB QF
 rw[List.map_map,QN,QN]
 exact QW λk hk=>EG (hw.sg _ (JO (List.mem_range.mp hk)))
theorem KQ (hs:1<=step):((QF word step).map Prod.fst).Nodup:=by
 unfold QF
 rw[List.map_map]
 refine ZC (λa b _ _ e=>?_) List.nodup_range
 have e:1+(a:Int)*step=1+(b:Int)*step:=e
 have e:(a:Int)*step=(b:Int)*step:=by omega
 have:=Int.eq_of_mul_eq_mul_right (by omega) e
 omega
theorem FC (hs:1<=step):∀x∈(QF word step).map Prod.fst,1<=x:=λx hx=>by
 obtain⟨e,he,rfl⟩:=List.mem_map.mp hx
 obtain⟨k,_,rfl⟩:=List.mem_map.mp he
 exact JK hs k
theorem Cl.dg {D:List (List Int)×List (Int×Int)}(hw:Wd S word)(hs:1<=step)(hS:S<=50)(hc:Cyc S (YB word step) ss)(h1:D.1=wks (YB word step) ss)(h2:D.2=QF word step):Cl S (YB word step) ss D/\DG D/\Xt D.1<=100:=by
 have hz:zOf (YB word step) ss=ss.flatMap λq=>(List.range q.2).map λj=>X6 (rep j (YB word step)) q.1:=rfl
 have perm:D.1.flatten.Perm ((D.2.map Prod.fst).flatMap λx=>[x,-x]):=by
  rw[h1,h2,Gp,hz]
  exact(Qh _ hc.all).trans ((GN hw.rows).trans (EL hw step))
 have hlen:D.2.length=word.length:=by rw[h2];simp[QF]
 have hle:=hw.le
 have hss:ss.length<=S:=by
  have h3:=hc.all.length_eq
  have h4:(Gf S).length=S:=by simp[Gf]
  rw[h4,List.length_flatMap] at h3
  rw[←h3]
  have h5:∀l:List (Int×Nat),(∀q∈l,1<=q.2)->l.length<=(l.map λq=>((List.range q.2).map λj=>X6 (rep j (YB word step)) q.1).length).sum:=λl=>by
   induction l with
   |nil=>intro _;exact Nat.le_refl _
   |cons q l ih=>
    intro h
    have:=ih λx hx=>h x (.tail _ hx)
    have:=h q List.mem_cons_self
    simp only[List.map_cons,List.sum_cons,List.length_map,List.length_range,List.length_cons] at*
    omega
  exact h5 ss hc.one
 have hpos:∀x∈D.2.map Prod.fst,1<=x:=by rw[h2];exact FC hs
 have hwl:D.1.length=ss.length:=by rw[h1];simp[wks]
 have hcount:Xt D.1=(D.2.length:Int)+(G6 D.1:Int):=by
  rw[JF,DJ perm,Df hpos,List.length_map]
 refine⟨⟨hc,h1,by rw[hlen,Z9],λk r e hr he=>?_,perm.nodup_iff.mpr (Bo hpos (by rw[h2];exact KQ hs))⟩,⟨by omega,λw hw'=>?_,by omega,λe he=>?_,λe he=>?_,hcount⟩,?_⟩
 ·have hk:k<word.length:=by
   have:=(List.getElem?_eq_some_iff.mp hr).1
   rwa [Z9] at this
  rw[Vf hk] at hr
  rw[h2] at he
  unfold QF at he
  rw[List.getElem?_map,List.getElem?_range hk] at he
  have hr:=Option.some.inj hr
  have he:=Option.some.inj he
  have he:(1+(k:Int)*step,(word.getD k (0,0)).2)=e:=he
  rw[Yx hk] at he
  subst hr he
  exact⟨JK hs k,hw.sg word[k] (List.getElem_mem hk),rfl⟩
 ·have h3:=perm.length_eq
  rw[Kf,List.length_map] at h3
  have h4:=(List.sublist_flatten_of_mem hw').length_le
  omega
 ·have hm:e.1∈D.2.map Prod.fst:=List.mem_map.mpr ⟨e,he,rfl⟩
  exact⟨perm.mem_iff.mpr (List.mem_flatMap.mpr ⟨_,hm,by simp⟩),perm.mem_iff.mpr (List.mem_flatMap.mpr ⟨_,hm,by simp⟩)⟩
 ·rw[h2] at he
  obtain⟨k,hk,rfl⟩:=List.mem_map.mp he
  exact hw.sg (word.getD k (0,0)) (JO (List.mem_range.mp hk))
 ·have:=BS D.1
  omega
theorem Fq {s:Int}{L:Nat}(hL:1<=L)(hc:X6 (rep L rs) s=s){z:Int}(h:X6 rs z∈Zb rs s L):z∈Zb rs s L:=by
 obtain⟨j,hj,e⟩:=Q8.mp h
 cases j with
 |zero=>
  have e:s=X6 rs z:=e
  obtain⟨L,rfl⟩:∃M,L=M+1:=⟨L-1,by omega⟩
  have hc':X6 rs (X6 (rep L rs) s)=X6 rs z:=by rw[←YT, ←YR,hc,e]
  exact Q8.mpr ⟨L,by omega,QS hc'⟩
 |succ j=>
  rw[YR,YT] at e
  exact Q8.mpr ⟨j,by omega,QS e⟩
theorem DL (hw:Wd S word)(hs:1<=step)(hS:S<=50):Ok (ZE word (S:Int) step) λD=>∃ ss,Cl S (YB word step) ss D/\DG D/\Xt D.1<=100/\D.2.length=word.length:=by
 unfold ZE
 simp only[Rs.okb]
 rw[Xv (show[false].length<=sizeLine from sz (by simp)),Rs.okb,show CC [false] (S:Int)= .ok (List.replicate S false) from ?_]
 rotate_left
 ·unfold CC
  rw[Xv ⟨by omega,by omega,sz (by simp;omega)⟩,Int.toNat_natCast]
  congr 1
  clear hS hw
  induction S with
  |zero=>rfl
  |succ n ih=>rw[List.replicate_succ,List.flatten_cons,ih,List.replicate_succ];rfl
 rw[Rs.okb,J1 (by omega),Rs.okb]
 have hle:=hw.le
 refine Ok.bind (Ok.forN (λi (g:List (List Int)×List Bool)=>g.2.length=S/\(∀q:Nat,q<i->g.2[q]?=some true)/\∃ss,g.1=wks (YB word step) ss/\ss.length<=i/\Done (S:Int) g.2 (zOf (YB word step) ss)/\(∀z,X6 (YB word step) z∈zOf (YB word step) ss->z∈zOf (YB word step) ss)/\∀q∈ss,1<=q.2/\X6 (rep q.2 (YB word step)) q.1=q.1) ⟨by simp,λq hq=>by omega,[],rfl,Nat.le_refl _,Done.none _ _,λz h=>(nomatch h),λq h=>(nomatch h)⟩ λi a g ha hg=>?_) λg hg=>?_
 ·obtain⟨rfl,hi⟩:=Qe ha
  obtain⟨g1,g2,ss,g3,g4,g5,g6,g7⟩:=hg
  have hi1:i<g.2.length:=by omega
  rw[Zc (n:=i) rfl hi1]
  simp only[Rs.okb]
  cases hb:g.2[i] with
  |true=>
   rw[show(!true)=false from rfl,if_neg Bool.false_ne_true]
   simp only[Rs.okb]
   exact⟨_,rfl,g1,Gu g2 (by simp[hi1,hb]),ss,g3,by omega,g5,g6,g7⟩
  |false=>
   rw[show(!false)=true from rfl,if_pos rfl]
   obtain⟨x,ex,L,x1,x2,x3,x4,x5,x6,x7⟩:=Et (step:=step) hw (by omega) hi g1 (by simp[hi1,hb]) g5 g6
   rw[ex,XB,Rs.okb,Xv (HL (by rw[g3];simp[wks];omega))]
   simp only[Rs.okb]
   have ez:zOf (YB word step) (ss++[((i:Int),L)])=zOf (YB word step) ss++Zb (YB word step) (i:Int) L:=by
    unfold zOf
    rw[List.flatMap_append];simp
   refine⟨_,rfl,x4,Gu (λq hq=>x7 q (g2 q hq)) x6,ss++[((i:Int),L)],?_,by simp;omega,by rw[ez];exact x5,?_,?_⟩
   ·show g.1++[x.1]=_
    rw[g3,x2]
    unfold wks
    rw[List.map_append];rfl
   ·rw[ez]
    intro z hz
    rcases List.mem_append.mp hz with h |h
    ·exact List.mem_append_left _ (g6 z h)
    ·exact List.mem_append_right _ (Fq x1 x3 h)
   ·intro q hq
    rcases List.mem_append.mp hq with h |h
    ·exact g7 q h
    ·rw[List.mem_singleton.mp h]
     exact⟨x1,x3⟩
 ·obtain⟨g1,g2,ss,g3,g4,g5,g6,g7⟩:=hg
  rw[Qj] at g2 g4
  rw[J1 (by omega),Rs.okb]
  rw[ZN (h:=λa:Int=>(1+a*step,(word.getD a.toNat (0,0)).2)) (sz (by simp;omega)) λa ha=>?_,Rs.okb]
  ·have hp:=g5.all (by rw[g1];rfl) (by omega) λq hq=>g2 q (by omega)
   rw[Int.toNat_natCast] at hp
   refine⟨_,rfl,ss,?_⟩
   have:=Cl.dg (D:=(g.1,((List.range word.length).map λ(i:Nat)=>(i:Int)).map λa:Int=>(1+a*step,(word.getD a.toNat (0,0)).2))) hw hs hS ⟨hw.rows,hw.nz hs,λq h=>(g7 q h).1,λq h=>(g7 q h).2,hp⟩ g3 (by
    show List.map _ _=QF word step
    unfold QF
    rw[List.map_map]
    exact List.map_congr_left λk _=>by show(1+(k:Int)*step,(word.getD ((k:Int)).toNat (0,0)).2)=_;rw[Int.toNat_natCast])
   exact⟨this.1,this.2.1,this.2.2,by simp⟩
  ·obtain⟨k,hk,rfl⟩:=Ke ha
   rw[Yv (by omega) (by omega)]
   simp only[Rs.okb]
   rw[Zc (n:=k) rfl hk]
   simp only[Rs.okb]
   rw[Int.toNat_natCast,Yx hk]
end
theorem Fw (a b:Bool):E7 (.ok a) (.ok b)= .ok (a&&b):=ID λ_=>rfl
section
variable {word:List (Int×Int)}{step f g:Int}{S P:Nat}
theorem F0 (hw:Wd S word)(hs:1<=step)(hS:S<=50)(hp:PP (P:Int))(hf:¬f % (P:Int)=0)(hg:Cg (P:Int) (f*g) 1):∃D,ZE word (S:Int) step= .ok D/\∃F,F<=100/\XX D (P:Int) f= .ok ((P^F:Nat):Int)/\P^F=(Q9 P S f g (word.map sgB)).length:=by
 obtain⟨D,eD,ss,hc,d,hA,hl⟩:=DL hw hs hS
 refine⟨D,eD,?_⟩
 have hP:1<P:=by have:=hp.1;omega
 obtain⟨K,hK⟩:∃K:Nat,Xt D.1=(K:Int):=⟨(Xt D.1).toNat,by have:=Ql D.1;omega⟩
 obtain⟨v,e1,hv⟩:=FV d
 obtain⟨ms,e2,_,e4⟩:=Fz d
 rw[e1] at e2
 have e2:=(Rs.ok.inj e2).symm
 subst e2
 rw[hK] at e4
 have hle:=hw.le
 have hml:(D.2.map v).length<=100:=by rw[List.length_map,hl];omega
 have hE:=BK (K:=K) (p:=(P:Int)) (f:=f) (L:=(D.2.map v).map Za)
 rw[List.length_map] at hE
 have he:∀k,k<(D.2.map v).length->Ran (P:Int) K (λj=>cfT f (((D.2.map v).map Za).getD k (0,0,0)) j % (P:Int)):=λk _ j _=>Jx (by omega) _
 obtain⟨ws,ts,hI,es⟩:=FM (e:=λk j=>cfT f (((D.2.map v).map Za).getD k (0,0,0)) j % (P:Int)) d hK (by omega) hp hf e1 rfl hml e4 hE he
 have hSl:=Hi hI hP
 have hF:(frs K ts).length<=K:=by
  have:=List.length_filter_le (λj=>!(isT ts j)) (List.range K)
  rw[List.length_range] at this
  exact this
 have hfold:∀(l:List Int) (g:Int),l.foldl (λg _=>g*(P:Int)) g=g*((P^l.length:Nat):Int):=λl=>by
  induction l with
  |nil=>intro g;simp
  |cons a l ih=>
   intro g
   rw[List.foldl_cons,ih,List.length_cons,Nat.pow_succ,Nat.mul_comm,Int.natCast_mul,Int.mul_assoc]
 have p2:=hp.2.1
 refine⟨(frs K ts).length,by omega,?_,?_⟩
 ·unfold XX
  simp only[Rs.okb]
  rw[es,XB,Rs.okb,Rs.okb,CN (h:=λg _=>g*(P:Int)) λg a _=>by rw[Ji (by omega) (by omega),Rs.okb],Rs.okb,hfold,List.length_map,Int.one_mul]
 ·rw[←hSl,GW (by omega) hg hc hK e4 hv,Hg hw hs]
theorem Ir {α:Type}(as:List α){k:Nat}(h:k<=as.length):Ue as none (some (k:Int))=as.take k:=by
 unfold Ue
 rw[HT.sIx_nat,HT.sIx_none,Nat.min_eq_left h,List.drop_zero,Nat.sub_zero]
theorem Z6 {α:Type}{a b:List α}(h:a.length+b.length<=1000):VG a b= .ok (a++b):=Xv (sz (by omega))
theorem Wd.sub {w:List (Int×Int)}(h:Wd S word)(hs:∀r∈w,r∈word)(hl:w.length<=50):Wd S w:=⟨hl,λr hr=>h.inn r (hs r hr),λr hr=>h.sg r (hs r hr)⟩
theorem U3 {x:Int}(h0:0<=x)(h1:x<2):2*x-1=1∨2*x-1= -1:=by omega
theorem El (x:Int):0<=x % 2/\x % 2<2:=⟨Int.emod_nonneg _ (by decide),Int.emod_lt_of_pos _ (by decide)⟩
theorem DM (l x:Int):∃s t u:Int,Qq l x= .ok ([(l,s),(l+1,t),(l,u)],[(l+1,u),(l,t),(l+1,s)])/\(s=1∨s= -1)/\(t=1∨t= -1)/\(u=1∨u= -1)/\(s=u->t=s):=by
 unfold Qq
 simp only[Rs.okb]
 rw[XN (by decide),Rs.okb,Yv (by decide) (by decide),Rs.okb]
 simp only[Rs.okb]
 rw[Ka (by decide) (by decide),Rs.okb,XN (by decide),Rs.okb,Yv (by decide) (by decide)]
 simp only[Rs.okb]
 rw[Ka (by decide) (by decide),Rs.okb,XN (by decide),Rs.okb,Yv (by decide) (by decide)]
 simp only[Rs.okb]
 have a:=U3 (El x).1 (El x).2
 have b:=U3 (El (x/2)).1 (El (x/2)).2
 have c:=U3 (El (x/4)).1 (El (x/4)).2
 generalize 2*(x % 2)-1=s at a
 generalize 2*(x/2 % 2)-1=t at b
 generalize 2*(x/4 % 2)-1=u at c
 by_cases z:s=u
 ·rw[if_pos (decide_eq_true z)]
  simp only[Rs.okb]
  rw[Xv (sz (by simp)),Xv (sz (by simp))]
  simp only[Rs.okb]
  exact⟨s,s,u,rfl,a,a,c,λ_=>rfl⟩
 ·rw[if_neg (by rw[decide_eq_false z];exact Bool.false_ne_true)]
  simp only[Rs.okb]
  rw[Xv (sz (by simp)),Xv (sz (by simp))]
  simp only[Rs.okb]
  exact⟨s,t,u,rfl,a,b,c,λh=>absurd h z⟩
noncomputable def MM (S S':Nat)(a b:List (Int×Int)):Prop:=Wd S a/\Wd S' b/\∀(P:Nat) (f g:Int),0<P->Cg (P:Int) (f*g) 1->(Q9 P S f g (a.map sgB)).length=(Q9 P S' f g (b.map sgB)).length
theorem Wd.in' (h:Wd S word):In (S:Int) (word.map sgB):=λr hr=>by
 obtain⟨q,hq,rfl⟩:=List.mem_map.mp hr
 exact h.inn q hq
theorem Wd.app {a b:List (Int×Int)}(ha:Wd S a)(hb:Wd S b)(hl:a.length+b.length<=50):Wd S (a++b):=⟨by rw[List.length_append];exact hl,λr hr=>(List.mem_append.mp hr).elim (ha.inn r) (hb.inn r),λr hr=>(List.mem_append.mp hr).elim (ha.sg r) (hb.sg r)⟩
theorem IZ {s:Int}(h:s=1∨s= -1):decide (0< -s)=!decide (0<s):=by rcases h with rfl |rfl<;> rfl
theorem LK {s u:Int}(h:s=1∨s= -1)(h':u=1∨u= -1)(e:decide (0<s)=decide (0<u)):s=u:=by
 rcases h with rfl |rfl<;> rcases h' with rfl |rfl<;> first |rfl | (exact absurd e (by decide))
theorem FN {r:List Int}(hw:Wd S word)(hl:word.length<=30)(h2:2<=S)(hS:S<=20)(hr:4<=r.length):Ok (Qr word (S:Int) r) λa=>∃ S',a.2.2=((S':Nat):Int)/\S'<=50/\MM S S' a.1 a.2.1:=by
 unfold Qr
 simp only[Rs.okb]
 rw[Zc (r:=r) (k:=1) (n:=1) rfl (by omega),Rs.okb,XN (by omega),Rs.okb,Zc (r:=r) (k:=2) (n:=2) rfl (by omega),Rs.okb,XN (by omega),Rs.okb,Zc (r:=r) (k:=3) (n:=3) rfl (by omega),Rs.okb,XN (by omega),Rs.okb,Yv (by decide) (by decide),Rs.okb,Rs.okb,Zc (r:=r) (k:=0) (n:=0) rfl (by omega),Rs.okb]
 have a0:=Int.emod_nonneg r[1] (show(word.length:Int)+1≠0 by omega)
 have a1:=Int.emod_lt_of_pos r[1] (show 0<(word.length:Int)+1 by omega)
 have b0:=Int.emod_nonneg r[2] (show(S:Int)-1≠0 by omega)
 have b1:=Int.emod_lt_of_pos r[2] (show 0<(S:Int)-1 by omega)
 have sg:=U3 (El r[3]).1 (El r[3]).2
 generalize r[1] % ((word.length:Int)+1)=k at a0 a1
 obtain⟨k,rfl⟩:∃m:Nat,k=(m:Int):=⟨k.toNat,by omega⟩
 generalize r[2] % ((S:Int)-1)=l at b0 b1
 generalize 2*(r[3] % 2)-1=s at sg
 rw[Ir word (by omega),Uq word (by omega)]
 have hL:Wd S (word.take k):=hw.sub (λq h=>List.mem_of_mem_take h) (by rw[List.length_take];omega)
 have hR:Wd S (word.drop k):=hw.sub (λq h=>List.mem_of_mem_drop h) (by rw[List.length_drop];omega)
 have lt:(word.take k).length=k:=by rw[List.length_take];omega
 have ld:(word.drop k).length=word.length-k:=by rw[List.length_drop]
 have eW:word=word.take k++word.drop k:=(List.take_append_drop k word).symm
 simp only[Rs.okb]
 refine Ok.ite (λc0=>?_) λc0=>?_
 ·rw[Xv (sz (by simp)),Rs.okb,Z6 (by rw[lt];simp;omega),Rs.okb,Z6 (by rw[List.length_append,lt,ld];simp;omega),Rs.okb]
  have h2w:Wd S [(l,s),(l,-s)]:=⟨by simp,λq h=>by
   simp only[List.mem_cons,List.not_mem_nil,or_false] at h
   rcases h with rfl |rfl<;> exact⟨b0,by show l+1<_;omega⟩,λq h=>by
   simp only[List.mem_cons,List.not_mem_nil,or_false] at h
   rcases h with rfl |rfl
   ·exact sg
   ·show-s=1∨ -s= -1
    omega⟩
  have hw2:Wd S (word.take k++[(l,s),(l,-s)]++word.drop k):=(hL.app h2w (by rw[lt];simp;omega)).app hR (by rw[List.length_append,lt,ld];simp;omega)
  refine⟨_,rfl,S,rfl,by omega,hw,hw2,λP f g hP hg=>?_⟩
  refine(J4 hP hw2.in' hw.in' ?_).symm
  show Js _ _ _ _ ((word.take k++[(l,s),(l,-s)]++word.drop k).map sgB) (word.map sgB)
  conv=>rhs;rw[eW]
  rw[List.map_append,List.map_append,List.map_append]
  have e2: [(l,s),(l,-s)].map sgB=[(l,decide (0<s)),(l,!decide (0<s))]:=by
   show[(l,decide (0<s)),(l,decide (0< -s))]=_
   rw[IZ sg]
  rw[e2]
  have:=Js.mid (l:=(word.take k).map sgB) (Lj (n:=(S:Int)) hg l (decide (0<s))) hR.in'
  rwa [List.append_nil] at this
 ·refine Ok.ite (λc1=>?_) λc1=>?_
  ·rw[Z6 (by rw[lt,ld];omega),Rs.okb]
   have hw2:Wd S (word.drop k++word.take k):=hR.app hL (by rw[lt,ld];omega)
   refine⟨_,rfl,S,rfl,by omega,hw,hw2,λP f g hP hg=>?_⟩
   show(Q9 P S f g (word.map sgB)).length=(Q9 P S f g ((word.drop k++word.take k).map sgB)).length
   conv=>lhs;rw[eW]
   rw[List.map_append,List.map_append]
   exact EJ hP hL.in' hR.in'
  ·rw[Fw]
   simp only[Rs.okb]
   refine Ok.ite (λc2=>?_) λc2=>?_
   ·rw[Bool.and_eq_true,decide_eq_true_eq,decide_eq_true_eq] at c2
    have hS3:=c2.2
    rw[XN (by omega),Rs.okb]
    have d0:=Int.emod_nonneg r[2] (show(S:Int)-2≠0 by omega)
    have d1:=Int.emod_lt_of_pos r[2] (show 0<(S:Int)-2 by omega)
    generalize r[2] % ((S:Int)-2)=m at d0 d1
    obtain⟨s,t,u,e3,hs,ht,hu,hh⟩:=DM m r[3]
    rw[e3,XB,Rs.okb]
    have hA:Wd S [(m,s),(m+1,t),(m,u)]:=⟨by simp,λq h=>by
     simp only[List.mem_cons,List.not_mem_nil,or_false] at h
     rcases h with rfl |rfl |rfl
     ·exact⟨d0,by show m+1<_;omega⟩
     ·exact⟨by show 0<=m+1;omega,by show m+1+1<_;omega⟩
     ·exact⟨d0,by show m+1<_;omega⟩,λq h=>by
     simp only[List.mem_cons,List.not_mem_nil,or_false] at h
     rcases h with rfl |rfl |rfl
     ·exact hs
     ·exact ht
     ·exact hu⟩
    have hB:Wd S [(m+1,u),(m,t),(m+1,s)]:=⟨by simp,λq h=>by
     simp only[List.mem_cons,List.not_mem_nil,or_false] at h
     rcases h with rfl |rfl |rfl
     ·exact⟨by show 0<=m+1;omega,by show m+1+1<_;omega⟩
     ·exact⟨d0,by show m+1<_;omega⟩
     ·exact⟨by show 0<=m+1;omega,by show m+1+1<_;omega⟩,λq h=>by
     simp only[List.mem_cons,List.not_mem_nil,or_false] at h
     rcases h with rfl |rfl |rfl
     ·exact hu
     ·exact ht
     ·exact hs⟩
    rw[Z6 (by rw[lt];simp;omega),Rs.okb,Z6 (by rw[List.length_append,lt,ld];simp;omega),Rs.okb,Z6 (by rw[lt];simp;omega),Rs.okb,Z6 (by rw[List.length_append,lt,ld];simp;omega),Rs.okb]
    have hw1:Wd S (word.take k++[(m,s),(m+1,t),(m,u)]++word.drop k):=(hL.app hA (by rw[lt];simp;omega)).app hR (by rw[List.length_append,lt,ld];simp;omega)
    have hw2:Wd S (word.take k++[(m+1,u),(m,t),(m+1,s)]++word.drop k):=(hL.app hB (by rw[lt];simp;omega)).app hR (by rw[List.length_append,lt,ld];simp;omega)
    refine⟨_,rfl,S,rfl,by omega,hw1,hw2,λP f g hP hg=>J4 hP hw1.in' hw2.in' ?_⟩
    show Js _ _ _ _ ((word.take k++[(m,s),(m+1,t),(m,u)]++word.drop k).map sgB) ((word.take k++[(m+1,u),(m,t),(m+1,s)]++word.drop k).map sgB)
    rw[List.map_append,List.map_append,List.map_append,List.map_append]
    exact Js.mid (l:=(word.take k).map sgB) (C5 (n:=(S:Int)) hg m (s:=decide (0<s)) (t:=decide (0<t)) (u:=decide (0<u)) λe=>by rw[hh (LK hs hu e)]) hR.in'
   ·rw[Fw]
    simp only[Rs.okb]
    refine Ok.ite (λc3=>?_) λc3=>?_
    ·rw[Bool.and_eq_true,decide_eq_true_eq,decide_eq_true_eq] at c3
     have hS4:=c3.2
     rw[XN (by omega),Rs.okb]
     have d0:=Int.emod_nonneg r[2] (show(S:Int)-3≠0 by omega)
     have d1:=Int.emod_lt_of_pos r[2] (show 0<(S:Int)-3 by omega)
     generalize r[2] % ((S:Int)-3)=m at d0 d1
     simp only[Rs.okb]
     rw[Xv (sz (by simp))]
     simp only[Rs.okb]
     rw[Xv (by trivial)]
     simp only[Rs.okb]
     have hA:Wd S [(0,s),(2+m,1)]:=⟨by simp,λq h=>by
      simp only[List.mem_cons,List.not_mem_nil,or_false] at h
      rcases h with rfl |rfl
      ·exact⟨Int.le_refl _,by show(0:Int)+1<_;omega⟩
      ·exact⟨by show 0<=2+m;omega,by show 2+m+1<_;omega⟩,λq h=>by
      simp only[List.mem_cons,List.not_mem_nil,or_false] at h
      rcases h with rfl |rfl
      ·exact sg
      ·exact .inl rfl⟩
     have hB:Wd S [(2+m,1),(0,s)]:=hA.sub (λq h=>by
      simp only[List.mem_cons,List.not_mem_nil,or_false] at h⊢
      exact h.symm) (by simp)
     rw[show[((0:Int),s),(2+m,1)].reverse=[(2+m,1),(0,s)] from rfl]
     rw[Z6 (by rw[lt];simp;omega),Rs.okb,Z6 (by rw[List.length_append,lt,ld];simp;omega),Rs.okb,Z6 (by rw[lt];simp;omega),Rs.okb,Z6 (by rw[List.length_append,lt,ld];simp;omega),Rs.okb]
     have hw1:Wd S (word.take k++[(0,s),(2+m,1)]++word.drop k):=(hL.app hA (by rw[lt];simp;omega)).app hR (by rw[List.length_append,lt,ld];simp;omega)
     have hw2:Wd S (word.take k++[(2+m,1),(0,s)]++word.drop k):=(hL.app hB (by rw[lt];simp;omega)).app hR (by rw[List.length_append,lt,ld];simp;omega)
     refine⟨_,rfl,S,rfl,by omega,hw1,hw2,λP f g hP hg=>J4 hP hw1.in' hw2.in' ?_⟩
     show Js _ _ _ _ ((word.take k++[(0,s),(2+m,1)]++word.drop k).map sgB) ((word.take k++[(2+m,1),(0,s)]++word.drop k).map sgB)
     rw[List.map_append,List.map_append,List.map_append,List.map_append]
     exact Js.mid (l:=(word.take k).map sgB) (Lk (n:=(S:Int)) (by omega)) hR.in'
    ·rw[Xv (sz (by simp)),Rs.okb,Z6 (by simp;omega),Rs.okb]
     have hw2:Wd (S+1) (word++[((S:Int)-1,s)]):=⟨by simp;omega,λq h=>by
      rcases List.mem_append.mp h with h |h
      ·have:=hw.inn q h
       omega
      ·rw[List.mem_singleton.mp h]
       show 0<=(S:Int)-1/\(S:Int)-1+1<_
       omega,λq h=>by
      rcases List.mem_append.mp h with h |h
      ·exact hw.sg q h
      ·rw[List.mem_singleton.mp h];exact sg⟩
     refine⟨_,rfl,S+1,by show(S:Int)+1=_;omega,by omega,hw,hw2,λP f g hP hg=>?_⟩
     show(Q9 P S f g (word.map sgB)).length=(Q9 P (S+1) f g ((word++[((S:Int)-1,s)]).map sgB)).length
     rw[List.map_append]
     exact BA hP hg (by omega) hw.in'
end
theorem Iw {p f:Int}(hp:PP p)(hf:¬f % p=0):∃g,Cg p (f*g) 1:=by
 have h0:0<p:=by have:=hp.1;omega
 have r:=Jx h0 f
 obtain⟨a,_,_,_,ha⟩:=VQ hp (a:=f % p) (by omega) r.2
 exact⟨a,(Cg.mul (Cg.emod p f).symm (Cg.refl p a)).trans ha⟩
theorem FQ {α:Type}{l:List α}{m c:Nat}(hm:l.length=m)(hc:c<m):∀{n j:Nat},j<n->(List.replicate n l).flatten[m*j+c]?=l[c]?
 |0,_,h=>by omega
 |n+1,0,_=>by
  rw[List.replicate_succ,List.flatten_cons,Nat.mul_zero,Nat.zero_add,List.getElem?_append_left (by omega)]
 |n+1,j+1,h=>by
  rw[List.replicate_succ,List.flatten_cons,List.getElem?_append_right (by rw[hm,Nat.mul_succ];omega),hm,show m*(j+1)+c-m=m*j+c by rw[Nat.mul_succ];omega]
  exact FQ hm hc (by omega)
theorem U6 {P:Nat}(hP:1<P)(hP2:P<=100000):∀(t n:Nat),t<n->ZV n ((P^t:Nat):Int) (λg=>(Zy g (P:Int)).bind λx=>Rs.ok (decide (x=0))) (λg=>(CT g (P:Int)).bind λa=>Rs.ok a)= .ok 1
 |t,0,h=>by omega
 |0,n+1,_=>by
  show((Zy _ _).bind _).bind _=_
  rw[Nat.pow_zero,XN (by omega),Rs.okb,Rs.okb,Int.emod_eq_of_lt (by decide) (by omega),if_neg (by decide)]
  rfl
 |t+1,n+1,h=>by
  show((Zy _ _).bind _).bind _=_
  have e:((P^(t+1):Nat):Int)=((P^t:Nat):Int)*(P:Int):=by rw[Nat.pow_succ,Int.natCast_mul]
  rw[e,XN (by omega),Rs.okb,Rs.okb,Int.mul_emod_left,decide_eq_true rfl,if_pos rfl]
  show((CT _ _).bind _).bind _=_
  rw[Ka (by omega) (by omega),Rs.okb,Rs.okb,Int.mul_ediv_cancel _ (by omega)]
  exact U6 hP hP2 t n (by omega)
theorem C6 (ns:List Int)(_:ns.length<=63):Ge ns= .ok true:=by
 refine Ok.eq ?_
 unfold Ge
 simp only[Rs.okb]
 rw[Xv (sz (by simp)),Rs.okb,Xv (sz (by simp)),Rs.okb]
 rw[show CC [(4:Int),2] 18= .ok (List.replicate 18 [(4:Int),2]).flatten from by
  unfold CC
  rw[Xv ⟨by decide,by decide,sz (by decide)⟩];rfl]
 simp only[Rs.okb]
 rw[show VG [(19:Int),4,5,60,60,8,4] (List.replicate 18 [(4:Int),2]).flatten= .ok ([(19:Int),4,5,60,60,8,4]++(List.replicate 18 [(4:Int),2]).flatten) from Xv (sz (by decide))]
 simp only[Rs.okb]
 refine Ok.bind (Ok.noE (Eb ns (p:=0) (by decide) _ (by decide) (by decide))) λr hr=>?_
 obtain⟨hl,hv⟩:=hr
 have hl:r.length=43:=hl
 have w0:=hv 0 r[0] 19 (List.getElem?_eq_getElem (by omega)) rfl
 have w1:=hv 1 r[1] 4 (List.getElem?_eq_getElem (by omega)) rfl
 have w6:=hv 6 r[6] 4 (List.getElem?_eq_getElem (by omega)) rfl
 have a0:atR r 0= .ok r[0]:=YA (i:=0) (List.getElem?_eq_getElem (by omega))
 have a1:atR r 1= .ok r[1]:=YA (i:=1) (List.getElem?_eq_getElem (by omega))
 have a6:atR r 6= .ok r[6]:=YA (i:=6) (List.getElem?_eq_getElem (by omega))
 obtain⟨S,hS⟩:∃S:Nat,(2:Int)+r[1]=(S:Int):=⟨((2:Int)+r[1]).toNat,by omega⟩
 obtain⟨m,hm⟩:∃m:Nat,r[0]=(m:Int):=⟨r[0].toNat,by omega⟩
 have hS2:2<=S:=by omega
 have hS5:S<=5:=by omega
 rw[a1,Rs.okb,Rs.okb,a0,Rs.okb,hm,J1 (by omega),Rs.okb,hS]
 refine Ok.bind (R:=λw:List (Int×Int)=>Wd S w/\w.length<=18) (Ok.imp (Ok.forN (λi (w:List (Int×Int))=>w.length=i/\∀e∈w,(0<=e.1/\e.1+1<(S:Int))/\(e.2=1∨e.2= -1)) ⟨rfl,λe he=>(nomatch he)⟩ λi a w ha hw=>?_) λw hw=>?_) λword hword=>?_
 ·obtain⟨rfl,hi⟩:=Qe ha
  obtain⟨h1,h2⟩:=hw
  have v1:=hv (8+2*i) r[8+2*i] 2 (List.getElem?_eq_getElem (by omega)) (by
   have:=FQ (l:=[(4:Int),2]) (m:=2) (c:=1) rfl (by decide) (n:=18) (j:=i) (by omega)
   rw[List.getElem?_append_right (by simp;omega)]
   show(List.replicate 18 [(4:Int),2]).flatten[8+2*i-7]?=some 2
   rw[show 8+2*i-7=2*i+1 by omega,this];rfl)
  rw[Yv (by decide) (by decide)]
  simp only[Rs.okb]
  rw[Zc (r:=r) (n:=7+2*i) (by omega) (by omega),Rs.okb,XN (by omega),Rs.okb]
  rw[Zc (r:=r) (n:=8+2*i) (by omega) (by omega),Rs.okb,Yv (by decide) (by decide)]
  simp only[Rs.okb]
  rw[Xv (HL (by omega))]
  have m0:=Int.emod_nonneg r[7+2*i] (show(S:Int)-1≠0 by omega)
  have m1:=Int.emod_lt_of_pos r[7+2*i] (show 0<(S:Int)-1 by omega)
  refine⟨_,rfl,by simp[h1],λe he=>?_⟩
  rcases List.mem_append.mp he with z |z
  ·exact h2 e z
  ·rw[List.mem_singleton.mp z]
   exact⟨⟨m0,by show r[7+2*i] % ((S:Int)-1)+1<_;omega⟩,U3 v1.1 v1.2⟩
 ·obtain⟨h1,h2⟩:=hw
  rw[Qj] at h1
  exact⟨⟨by omega,λe he=>(h2 e he).1,λe he=>(h2 e he).2⟩,by omega⟩
 ·obtain⟨hW,hWl⟩:=hword
  rw[Xv (sz (by simp)),Rs.okb]
  refine Ok.bind (Ok.bind (Ok.noE (Eb ns (p:=1) (by decide) _ (by decide) (by decide))) λr2 hr2=>Ok.noE (R:=λa:Int×Int=>PP a.1/\¬a.2 % a.1=0) ?_) λpf hpf=>?_
  ·obtain⟨hl2,hv2⟩:=hr2
   have hl2:r2.length=3:=hl2
   exact Bm (by omega) (hv2 0 r2[0] 10 (List.getElem?_eq_getElem (by omega)) rfl) (hv2 1 r2[1] 99990 (List.getElem?_eq_getElem (by omega)) rfl) (hv2 2 r2[2] 5 (List.getElem?_eq_getElem (by omega)) rfl)
  ·obtain⟨hp,hf⟩:=hpf
   obtain⟨P,hP⟩:∃P:Nat,pf.1=(P:Int):=⟨pf.1.toNat,by have:=hp.1;omega⟩
   rw[hP] at hp hf⊢
   obtain⟨g,hg⟩:=Iw hp hf
   have hP1:1<P:=by have:=hp.1;omega
   have hP2:=hp.2.1
   rw[show Ue r (some (2:Int)) none=r.drop 2 from Uq r (k:=2) (by omega)]
   refine Ok.bind (Ok.noE (FN hW (by omega) hS2 (by omega) (by rw[List.length_drop];omega))) λa ha=>?_
   obtain⟨S',e1,hS',hA,hB,hcnt⟩:=ha
   rw[Gs (by decide) (by decide) (by decide) (by decide)]
   simp only[Rs.okb]
   rw[Xv (sz (by simp)),Rs.okb,a6,Rs.okb]
   have hstep:∃step:Int,atR [(1:Int),2,7,10^(9:Int).toNat] r[6]= .ok step/\1<=step:=by
    obtain⟨z,ez,hz⟩:=Dj (as:=[(1:Int),2,7,10^(9:Int).toNat]) w6.1 w6.2
    refine⟨z,ez,?_⟩
    simp only[List.mem_cons,List.not_mem_nil,or_false] at hz
    rcases hz with rfl |rfl |rfl |rfl<;> decide
   obtain⟨step,es,hst⟩:=hstep
   rw[es,Rs.okb]
   obtain⟨D1,d1,F1,f1,n1,c1⟩:=F0 hA (Int.le_refl 1) (by omega) hp hf hg
   obtain⟨D2,d2,F2,f2,n2,c2⟩:=F0 hB hst hS' hp hf hg
   have hF:P^F1=P^F2:=by rw[c1,c2];exact hcnt P pf.2 g (by omega) hg
   have hpos:0<P^F1:=Nat.pow_pos (by omega)
   rw[e1,d1,XB,Rs.okb,n1,XB,Rs.okb,show ZR ((P^F1:Nat):Int)= .ok true from rfl,XB,Rs.okb,Rs.okb,if_neg (by decide),d2,XB,Rs.okb,n2,XB,Rs.okb, ←hF,decide_eq_true rfl,decide_eq_false (by omega)]
   rw[show orR (Rs.ok (!true)) (Rs.ok false)= .ok false from rfl,Rs.okb,if_neg (by decide)]
   rw[U6 hP1 (by omega) F1 200 (by omega),Rs.okb,decide_eq_true rfl]
   exact⟨_,rfl,rfl⟩
noncomputable def top (i:Nat):Stmt:=PySem.Challenge.pw_plait_k85_whole_words_of_plaits.main.body.getD i (.Pass ⟨0,0,0,0⟩)
noncomputable abbrev Cq:Stmt:=top 6
noncomputable abbrev Ds:Stmt:=top 8
noncomputable abbrev Z1:Stmt:=top 9
noncomputable abbrev Y5:Stmt:=top 10
noncomputable abbrev ZL:Stmt:=top 11
noncomputable abbrev Gh:Stmt:=top 12
noncomputable abbrev FG:Stmt:=top 14
noncomputable abbrev ZM:Stmt:=top 17
noncomputable abbrev Jc:Stmt:=top 18
noncomputable abbrev ZZ:Stmt:=top 19
noncomputable abbrev Qy:Stmt:=top 20
noncomputable abbrev Y4:Stmt:=top 21
noncomputable abbrev F9:Stmt:=top 22
noncomputable abbrev Zd:Stmt:=top 23
noncomputable abbrev Uc:Stmt:=top 24
noncomputable abbrev Q7:Stmt:=top 25
noncomputable abbrev ZH:Stmt:=top 26
noncomputable abbrev ZJ:Stmt:=top 27
noncomputable abbrev Zp:Stmt:=top 28
noncomputable abbrev Cr:Stmt:=top 30
noncomputable abbrev Hx:Stmt:=top 31
noncomputable abbrev EY:Stmt:=top 32
noncomputable abbrev Jt:Stmt:=top 33
noncomputable abbrev KO:Stmt:=top 34
noncomputable abbrev FE:Stmt:=top 35
noncomputable abbrev JU:Stmt:=top 36
noncomputable abbrev UB:Stmt:=top 37
noncomputable abbrev Uw:Stmt:=top 38
noncomputable abbrev Ux:Stmt:=top 39
structure Blt (mg:Str->Option Value):Prop where
 b_bool:mg "bool" =none
 b_dict:mg "dict" =none
 b_enumerate:mg "enumerate" =none
 b_int:mg "int" =none
 b_isinstance:mg "isinstance" =none
 b_len:mg "len" =none
 b_max:mg "max" =none
 b_range:mg "range" =none
 b_sum:mg "sum" =none
 b_zip:mg "zip" =none
 c_MOST_PRIME:∃u,mg "MOST_PRIME" =some u/\Yc (.int 100000) u
section
variable {P:Program}{w:World}{K:PySem.W.Frag}{mg:Str->Option Value}{base:Heap}
theorem Gd:FnScope ["drawing","passage","at","walk"] ["drawing","passage"] (Xk Cq):=⟨rfl,rfl,rfl,by decide+kernel,rfl,by decide+kernel,by decide+kernel⟩
theorem Hd (D:Def K mg "spot" Cq ["drawing","passage"])(Z:Blt mg):Fn P w K mg base 1 "spot" ["drawing","passage"] (sp2 (rP2 (rV (rV Xa)) (rV (rP2 Xa Xa))) Xa (oF (rP2 Xa Xa)) Vy K):=by
 refine YY D Gd (λvs H Q E h=>?_) (λf cdv A outer s H vs Q E hr h=>?_)
 ·obtain⟨v_0,v_1,a_0,a_1,b,rfl,_⟩:=h;rfl
 obtain⟨v_0,v_1,a_0,a_1,b,rfl,h_0,h_1,hm,q⟩:=h
 have hu:=hu8 hr
 have hu1:=YX hr
 refine⟨_,(Xd (Zw PassesOwn.never rfl (FR rfl Z.b_enumerate (XQ (Zh K rfl) (pv 0) Xf (λ_ _=>rfl))) (QG rfl (Xu (Xq (i:=2) Gd.nd rfl (Or.inl rfl)) (Xu (Xq (i:=3) Gd.nd rfl (Or.inl rfl)) Y1)))
   (Xd (ZI (XH DO (pv 1) (pv 3) rfl)
    (Xd (XJ (X1 (Xb (pv 2) (Xb (Ln (K:=K) rfl PySem.F.plainAttrs_list PySem.F.slot_list_index PySem.F.type_list_index (DV K rfl) (pv 3) (Xb (pv 1) Xg)) Xg))))
    Xj)
    Xj)
   Xj))
  (Xd Uy
  Xj)),?_⟩
 refine Y8 (S:=(SC.add (SC.add SC.nil K (rP2 (rV (rV Xa)) (rV (rP2 Xa Xa))) v_0 a_0) K Xa v_1 a_1)) (σ:=[some v_0,some v_1,none,none]) 0 ?_ (SC.i (SC.i SC.t h_0) h_1) hm q rfl
 unfold Vy
 exact(EO (K:=K) (J:=({oo:=λx3=>[],ss:=λx3=>[some v_0,some v_1,x3.1,x3.2],sc:=λg4 x3=>(SC.add (SC.add SC.nil K (rP2 (rV (rV Xa)) (rV (rP2 Xa Xa))) v_0 a_0) K Xa v_1 a_1)}:Jn (Unit) (Option V×Option V))) (λ_=>tg2 2 3) ((none),(none)) () (Kk (K8 (Xi (r:=(rP2 (rV (rV Xa)) (rV (rP2 Xa Xa)))) 0 rfl (λ_ s=>s.l.r)))) rfl rfl (λ_ s=>(SC.i (SC.i SC.t s.l.r) s.r)) (λg5 x6 a7 v8=>(Cz (XA (K:=K) (Lo (Xc (r:=Xa) 1 rfl (λ_ s=>s.l.l.r)) (Xc (r:=(rV Xa)) 3 rfl (λ_ s=>s.r)))) (XY (EvS.ev (Ye (Xi (r:=Xa) 2 rfl (λ_ s=>s.l.r)) (EvB.sh (Dh (Xc (r:=(rV Xa)) 3 rfl (λ_ s=>s.r)) (Xc (r:=Xa) 1 rfl (λ_ s=>s.l.l.r))))))) (B2 (XL (J:=_) ((some v8.1),(some v8.2)) () rfl rfl (λ_ s=>(SC.i (SC.i SC.t s.l.l.l.r) s.l.l.r)))))) λg18 x19=>Ib)
theorem Z8:FnScope ["walk","unders"] ["walk"] (Xk Y5):=⟨rfl,rfl,rfl,by decide+kernel,rfl,by decide+kernel,by decide+kernel⟩
theorem Vi (D:Def K mg "arcs_of_walk" Y5 ["walk"])(Z:Blt mg):Fn P w K mg base 1 "arcs_of_walk" ["walk"] (sp1 (rV Xa) (oF Xa) XC K):=by
 refine YY D Z8 (λvs H Q E h=>?_) (λf cdv A outer s H vs Q E hr h=>?_)
 ·obtain⟨v_0,a_0,b,rfl,_⟩:=h;rfl
 obtain⟨v_0,a_0,b,rfl,h_0,hm,q⟩:=h
 have hu:=hu8 hr
 have hu1:=YX hr
 refine⟨_,(Xd (J5 1 (Xk Y5) ["walk","unders"] ["passage"] [] rfl Z8.nd rfl rfl (X4 (K:=K) rfl (pv 0)) (ZY (by decide)) (λcl C s H ex E=>⟨Xq (i:=0) (show List.Nodup (["passage"]:List Str) by decide+kernel) rfl (Or.inl rfl),(KA (XH Fe (pv 0) Xf (X2 _))),(pv 0)⟩))
  (Xd (XJ (Yp (Kt rfl) rfl Z.b_max PyProof.Rows.boot_max (Xb (Yp (XU K rfl) rfl Z.b_len PySem.boot_len (Xb (pv 1) Xg)) (Xb Xf Xg))))
  Xj)),?_⟩
 refine Y8 (S:=(SC.add SC.nil K (rV Xa) v_0 a_0)) (σ:=[some v_0,none]) 0 ?_ (SC.i SC.t h_0) hm q rfl
 unfold XC
 exact(Xw (K:=K) (r:=(rV Xa)) 1 (Ev.sh (Ug (λ_=>tg1 0) (XS (Xi (r:=(rV Xa)) 0 rfl (λ_ s=>s.r))) (λC3 a4 v5=>(XA (K:=K) (VZ (Xc (r:=Xa) 0 rfl (λ_ s=>s.r)) (Xe 0)))) (λC3 a4 v5=>(EvS.ev (Xi (r:=Xa) 0 rfl (λ_ s=>s.r)))))) λa1 v2=>(XY (EvS.ev (EvB.sh (Fr (Qb (Xc (r:=(rV Xa)) 1 rfl (λ_ s=>s.r))) (Xe 1))))))
theorem X5:FnScope ["walk","first","number","unders","ways","passage"] ["walk","first"] (Xk ZL):=⟨rfl,rfl,rfl,by decide+kernel,rfl,by decide+kernel,by decide+kernel⟩
theorem Vs (D:Def K mg "arcs_of_ways" ZL ["walk","first"])(g_arcs_of_walk:Fn P w K mg base 1 "arcs_of_walk" ["walk"] (sp1 (rV Xa) (oF Xa) XC K))(Z:Blt mg):Fn P w K mg base 2 "arcs_of_ways" ["walk","first"] (sp2 (rV Xa) Xa (oL (oF Xa)) Yi K):=by
 refine YY D X5 (λvs H Q E h=>?_) (λf cdv A outer s H vs Q E hr h=>?_)
 ·obtain⟨v_0,v_1,a_0,a_1,b,rfl,_⟩:=h;rfl
 obtain⟨v_0,v_1,a_0,a_1,b,rfl,h_0,h_1,hm,q⟩:=h
 have hu:=hu8 hr
 have hu1:=YX hr
 refine⟨_,(Xd (Xp (i:=2) X5.nd rfl (Or.inl rfl) (Yf g_arcs_of_walk hr (by decide) (Xb (pv 0) Xg)))
  (Xd (Xp (i:=3) X5.nd rfl (Or.inl rfl) Xf)
  (Xd (Xp (i:=4) X5.nd rfl (Or.inl rfl) (Yg (Xb (pv 1) Xg)))
  (Xd (Zw PassesOwn.never rfl (X4 (K:=K) rfl (Qo (QA K rfl) (pv 0) Jd (Jy (K0 J0 Xf)))) (Xq (i:=5) X5.nd rfl (Or.inl rfl))
   (Xd (ZI (XH Fe (pv 5) Xf (X2 _))
    (Xd (Kw (i:=3) X5.nd rfl (Or.inl rfl) Xf Kl)
    Xj)
    Xj)
   (Xd (YZ (Jq PySem.F.plainAttrs_list PySem.F.slot_list_append PySem.F.type_list_append Yh (pv 4) (Xb (Xl X9 (pv 1) (Xl XV (pv 3) (pv 2))) Xg)))
   Xj)))
  (Xd (XJ (pv 4))
  Xj))))),?_⟩
 refine Y8 (S:=(SC.add (SC.add SC.nil K (rV Xa) v_0 a_0) K Xa v_1 a_1)) (σ:=[some v_0,some v_1,none,none,none,none]) 1 ?_ (SC.i (SC.i SC.t h_0) h_1) hm q rfl
 unfold Yi
 exact(Xw (K:=K) (r:=Xa) 2 (EvB.sh (Ev.toB (YG (Xc (r:=(rV Xa)) 0 rfl (λ_ s=>s.l.r))))) λa1 v2=>(Xw (K:=K) (r:=Xa) 3 (EvB.sh (Xe 0)) λa5 v6=>(Ya (K:=K) (o:=(oL (oF Xa))) 4 0 (Zi (Xm (Xi (r:=Xa) 1 rfl (λ_ s=>s.l.l.r)) YL)) (Nat.le_of_ble_eq_true rfl) λa7 v8 C9=>(ZX (K:=K) (J:=({oo:=λx18=>[x18.2.2.2],ss:=λx18=>[some v_0,some v_1,some v2,some x18.2.1,some x18.2.2.1,x18.1],sc:=λg19 x18=>(SC.addO (SC.add (SC.add (SC.add (SC.add SC.nil K (rV Xa) v_0 a_0) K Xa v_1 a_1) K Xa v2 a1) K Xa x18.2.1 g19.1) K (oL (oF Xa)) x18.2.2.1 g19.2 x18.2.2.2)}:Jn (Int×(List Int)) (Option V×V×V×List Xy))) (λ_=>tg1 5) ((none),v6,v8,C9) (a5,a7) (XS (Ev.sh (Q6 (EvS.ls (Xi (r:=(rV Xa)) 0 rfl (λ_ s=>s.l.l.l.l.r))) Qu (Qw (K:=K) (QK (Xe 1)))))) rfl rfl (λ_ s=>(SC.i (SC.i (SC.i (SC.i (SC.i SC.t s.l.l.l.l.r) s.l.l.l.r) s.l.l.r) s.l.r) s.r)) (λg20 x21 a22 v23=>(Z5 (J:=({oo:=λx27=>[x21.2.2.2],ss:=λx27=>[some v_0,some v_1,some v2,some x27,some x21.2.2.1,some v23],sc:=λg28 x27=>(SC.add (SC.add (SC.addO (SC.add (SC.add (SC.add SC.nil K (rV Xa) v_0 a_0) K Xa v_1 a_1) K Xa v2 a1) K (oL (oF Xa)) x21.2.2.1 g20.2 x21.2.2.2) K Xa v23 a22) K Xa x27 g28)}:Jn (Int) (V))) (QZ (Fd:=FNd ({oo:=λx27=>[x21.2.2.2],ss:=λx27=>[some v_0,some v_1,some v2,some x27,some x21.2.2.1,some v23],sc:=λg28 x27=>(SC.add (SC.add (SC.addO (SC.add (SC.add (SC.add SC.nil K (rV Xa) v_0 a_0) K Xa v_1 a_1) K Xa v2 a1) K (oL (oF Xa)) x21.2.2.1 g20.2 x21.2.2.2) K Xa v23 a22) K Xa x27 g28)}:Jn (Int) (V))) (XA (K:=K) (VZ (Xc (r:=Xa) 5 rfl (λ_ s=>s.r)) (Xe 0))) (Dx (K:=K) (f:=λa31=>(Rs.ok (a31))) 3 rfl (λ_ s=>s.l.l.r) (Xe 1) λa31 v30=>(XL (J:=_) (v30) (a31) rfl rfl (λ_ s=>(SC.i (SC.i (SC.i (SC.i (SC.i (SC.i SC.t s.l.l.l.l.l.l.r) s.l.l.l.l.l.r) s.l.l.l.l.r) s.l.l.r) s.l.r) s.r)))) (XL (J:=_) (x21.2.1) (g20.1) rfl rfl (λ_ s=>(SC.i (SC.i (SC.i (SC.i (SC.i (SC.i SC.t s.l.l.l.l.l.r) s.l.l.l.l.r) s.l.l.l.r) s.l.r) s.r) s.l.l.r)))) λg33 x32=>(Qk (K:=K) (o:=(oF Xa)) (f:=λa40=>(Rs.ok (g33,a40))) 4 0 rfl rfl rfl (λ_ s=>s.l.l.r) (EvS.ev (EvB.sh (XM (Xc (r:=Xa) 1 rfl (λ_ s=>s.l.l.l.l.r)) (XE (Xc (r:=Xa) 3 rfl (λ_ s=>s.r)) (Xc (r:=Xa) 2 rfl (λ_ s=>s.l.l.l.r)))))) λa38 C39=>(XL (J:=_) ((some v23),x32,x21.2.2.1,C39) (g33,(g20.2++[a38])) rfl rfl (λ_ s=>(SC.i (SC.i (SC.i (SC.i (SC.i SC.t s.l.l.l.l.l.l.r) s.l.l.l.l.l.r) s.l.l.l.l.r) s.l.r) s.r)))))) λg41 x42=>(XY (YI (o:=(oL (oF Xa))) 4 0 rfl rfl (λ_ s=>s.r)))))))
theorem Vn:FnScope ["drawing","told","first","walk"] ["drawing"] (Xk Ds):=⟨rfl,rfl,rfl,by decide+kernel,rfl,by decide+kernel,by decide+kernel⟩
theorem Hs (D:Def K mg "arcs" Ds ["drawing"])(g_arcs_of_walk:Fn P w K mg base 1 "arcs_of_walk" ["walk"] (sp1 (rV Xa) (oF Xa) XC K))(g_arcs_of_ways:Fn P w K mg base 2 "arcs_of_ways" ["walk","first"] (sp2 (rV Xa) Xa (oL (oF Xa)) Yi K))(Z:Blt mg):Fn P w K mg base 3 "arcs" ["drawing"] (sp1 (rP2 (rV (rV Xa)) (rV (rP2 Xa Xa))) (oL (oL (oF Xa))) VO K):=by
 refine YY D Vn (λvs H Q E h=>?_) (λf cdv A outer s H vs Q E hr h=>?_)
 ·obtain⟨v_0,a_0,b,rfl,_⟩:=h;rfl
 obtain⟨v_0,a_0,b,rfl,h_0,hm,q⟩:=h
 have hu:=hu8 hr
 have hu1:=YX hr
 refine⟨_,(Xd (Xp (i:=1) Vn.nd rfl (Or.inl rfl) (Yg Xg))
  (Xd (Xp (i:=2) Vn.nd rfl (Or.inl rfl) Xf)
  (Xd (Zw PassesOwn.never rfl (X4 (K:=K) rfl (XQ (Zh K rfl) (pv 0) Xf (λ_ _=>rfl))) (Xq (i:=3) Vn.nd rfl (Or.inl rfl))
   (Xd (YZ (Jq PySem.F.plainAttrs_list PySem.F.slot_list_append PySem.F.type_list_append Yh (pv 1) (Xb (Yf g_arcs_of_ways hr (by decide) (Xb (pv 3) (Xb (pv 2) Xg))) Xg)))
   (Xd (Kw (i:=2) Vn.nd rfl (Or.inl rfl) (Yf g_arcs_of_walk hr (by decide) (Xb (pv 3) Xg)) Kl)
   Xj)))
  (Xd (XJ (pv 1))
  Xj)))),?_⟩
 refine Y8 (S:=(SC.add SC.nil K (rP2 (rV (rV Xa)) (rV (rP2 Xa Xa))) v_0 a_0)) (σ:=[some v_0,none,none,none]) 1 ?_ (SC.i SC.t h_0) hm q rfl
 unfold VO
 exact(Ya (K:=K) (o:=(oL (oL (oF Xa)))) 1 0 (V3 (o:=(oL (oF Xa)))) (Nat.le_of_ble_eq_true rfl) λa1 v2 C3=>(Xw (K:=K) (r:=Xa) 2 (EvB.sh (Xe 0)) λa4 v5=>(ZX (K:=K) (J:=({oo:=λx7=>[x7.2.2.2],ss:=λx7=>[some v_0,some x7.2.2.1,some x7.2.1,x7.1],sc:=λg8 x7=>(SC.addO (SC.add (SC.add SC.nil K (rP2 (rV (rV Xa)) (rV (rP2 Xa Xa))) v_0 a_0) K Xa x7.2.1 g8.1) K (oL (oL (oF Xa))) x7.2.2.1 g8.2 x7.2.2.2)}:Jn (Int×(List (List Int))) (Option V×V×V×List Xy))) (λ_=>tg1 3) ((none),v5,v2,C3) (a4,a1) (XS (K8 (Xi (r:=(rP2 (rV (rV Xa)) (rV (rP2 Xa Xa)))) 0 rfl (λ_ s=>s.l.l.r)))) rfl rfl (λ_ s=>(SC.i (SC.i (SC.i SC.t s.l.l.r) s.r) s.l.r)) (λg9 x10 a11 v12=>(Qk (K:=K) (o:=(oL (oF Xa))) (f:=λa18=>(Rs.bind (Rs.bind (Rs.ok a11) λx20=>(noE (XC x20))) λx21=>((λ(a23:Int)=>(Rs.ok (a23,a18))) (g9.1+x21)))) 1 0 rfl rfl rfl (λ_ s=>s.l.r) (YF (Xc (r:=(rV Xa)) 3 rfl (λ_ s=>s.r)) (Xc (r:=Xa) 2 rfl (λ_ s=>s.l.l.r))) λa16 C17=>(Dx (K:=K) (f:=λa23=>(Rs.ok (a23,(g9.2++[a16])))) 2 rfl (λ_ s=>s.l.l.l.r) (Ev.toB (YG (Xc (r:=(rV Xa)) 3 rfl (λ_ s=>s.l.r)))) λa23 v22=>(XL (J:=_) ((some v12),v22,x10.2.2.1,C17) (a23,(g9.2++[a16])) rfl rfl (λ_ s=>(SC.i (SC.i (SC.i SC.t s.l.l.l.l.l.r) s.r) s.l.r)))))) λg24 x25=>(XY (YI (o:=(oL (oL (oF Xa)))) 1 0 rfl rfl (λ_ s=>s.r))))))
theorem U9:FnScope ["drawing"] ["drawing"] (Xk Z1):=⟨rfl,rfl,rfl,by decide+kernel,rfl,by decide+kernel,by decide+kernel⟩
theorem Ko (D:Def K mg "arc_count" Z1 ["drawing"])(g_arcs_of_walk:Fn P w K mg base 1 "arcs_of_walk" ["walk"] (sp1 (rV Xa) (oF Xa) XC K))(Z:Blt mg):Fn P w K mg base 2 "arc_count" ["drawing"] (sp1 (rP2 (rV (rV Xa)) (rV (rP2 Xa Xa))) (oF Xa) Ys K):=by
 refine YY D U9 (λvs H Q E h=>?_) (λf cdv A outer s H vs Q E hr h=>?_)
 ·obtain⟨v_0,a_0,b,rfl,_⟩:=h;rfl
 obtain⟨v_0,a_0,b,rfl,h_0,hm,q⟩:=h
 have hu:=hu8 hr
 have hu1:=YX hr
 refine⟨_,(Xd (XJ (Yp (FI rfl) rfl Z.b_sum PyProof.Rows.boot_sum (Xb (Zu (sc:=(Xk Z1)) (N0:=["drawing"]) (tns:=["walk"]) (caps:=[]) rfl (X4 (K:=K) rfl (XQ (Zh K rfl) (pv 0) Xf (λ_ _=>rfl))) (ZY (by decide)) (λcl C s H ex E=>⟨Xq (i:=0) (show List.Nodup (["walk"]:List Str) by decide+kernel) rfl (Or.inl rfl),ZG,(Yf g_arcs_of_walk hr (by decide) (Xb (pv 0) Xg))⟩)) Xg)))
  Xj),?_⟩
 refine Y8 (S:=(SC.add SC.nil K (rP2 (rV (rV Xa)) (rV (rP2 Xa Xa))) v_0 a_0)) (σ:=[some v_0]) 0 ?_ (SC.i SC.t h_0) hm q rfl
 unfold Ys
 exact(XY (EvS.ev (EvB.sh (EQ (Ev.toB (ZK (λ_=>tg1 0) (XS (K8 (Xi (r:=(rP2 (rV (rV Xa)) (rV (rP2 Xa Xa)))) 0 rfl (λ_ s=>s.r)))) (λC3 a4 v5=>(YG (Xc (r:=(rV Xa)) 0 rfl (λ_ s=>s.r))))))))))
theorem YQ:FnScope ["drawing","numbers","told","crossing","sign","above","below","over","ways","inward","outward"] ["drawing"] (Xk Gh):=⟨rfl,rfl,rfl,by decide+kernel,rfl,by decide+kernel,by decide+kernel⟩
theorem BU (D:Def K mg "meets" Gh ["drawing"])(g_arcs:Fn P w K mg base 3 "arcs" ["drawing"] (sp1 (rP2 (rV (rV Xa)) (rV (rP2 Xa Xa))) (oL (oL (oF Xa))) VO K))(g_spot:Fn P w K mg base 1 "spot" ["drawing","passage"] (sp2 (rP2 (rV (rV Xa)) (rV (rP2 Xa Xa))) Xa (oF (rP2 Xa Xa)) Vy K))(Z:Blt mg):Fn P w K mg base 4 "meets" ["drawing"] (sp1 (rP2 (rV (rV Xa)) (rV (rP2 Xa Xa))) (oL (oF (rP5 Xa Xa Xa Xa Xa))) Zn K):=by
 refine YY D YQ (λvs H Q E h=>?_) (λf cdv A outer s H vs Q E hr h=>?_)
 ·obtain⟨v_0,a_0,b,rfl,_⟩:=h;rfl
 obtain⟨v_0,a_0,b,rfl,h_0,hm,q⟩:=h
 have hu:=hu8 hr
 have hu1:=YX hr
 refine⟨_,(Xd (Xp (i:=1) YQ.nd rfl (Or.inl rfl) (Yf g_arcs hr (by decide) (Xb (pv 0) Xg)))
  (Xd (Xp (i:=2) YQ.nd rfl (Or.inl rfl) (Yg Xg))
  (Xd (Zw PassesOwn.never rfl (X4 (K:=K) rfl (XQ (Zh K rfl) (pv 0) Xf (λ_ _=>rfl))) (QG rfl (Xu (Xq (i:=3) YQ.nd rfl (Or.inl rfl)) (Xu (Xq (i:=4) YQ.nd rfl (Or.inl rfl)) Y1)))
   (Xd (Xp (i:=5) YQ.nd rfl (Or.inl rfl) (Yf g_spot hr (by decide) (Xb (pv 0) (Xb (pv 3) Xg))))
   (Xd (Xp (i:=6) YQ.nd rfl (Or.inl rfl) (Yf g_spot hr (by decide) (Xb (pv 0) (Xb (K0 J0 (pv 3)) Xg))))
   (Xd (Xp (i:=7) YQ.nd rfl (Or.inl rfl) (XQ (Xo K rfl) (XQ (Xo K rfl) (pv 1) (XQ (Zh K rfl) (pv 5) Xf (λ_ _=>rfl)) (λ_ _=>rfl)) (XQ (Zh K rfl) (pv 5) Xf (λ_ _=>rfl)) (λ_ _=>rfl)))
   (Xd (Xp (i:=8) YQ.nd rfl (Or.inl rfl) (XQ (Xo K rfl) (pv 1) (XQ (Zh K rfl) (pv 6) Xf (λ_ _=>rfl)) (λ_ _=>rfl)))
   (Xd (Xp (i:=9) YQ.nd rfl (Or.inl rfl) (XQ (Xo K rfl) (pv 8) (XQ (Zh K rfl) (pv 6) Xf (λ_ _=>rfl)) (λ_ _=>rfl)))
   (Xd (Xp (i:=10) YQ.nd rfl (Or.inl rfl) (XQ (Xo K rfl) (pv 8) (Xl XV (Xl X9 (XQ (Zh K rfl) (pv 6) Xf (λ_ _=>rfl)) Xf) (Yp (XU K rfl) rfl Z.b_len PySem.boot_len (Xb (pv 8) Xg))) (λ_ _=>rfl)))
   (Xd (YZ (Jq PySem.F.plainAttrs_list PySem.F.slot_list_append PySem.F.type_list_append Yh (pv 2) (Xb (X1 (Xb (pv 3) (Xb (pv 4) (Xb (pv 7) (Xb (pv 9) (Xb (pv 10) Xg)))))) Xg)))
   Xj))))))))
  (Xd (XJ (pv 2))
  Xj)))),?_⟩
 refine Y8 (S:=(SC.add SC.nil K (rP2 (rV (rV Xa)) (rV (rP2 Xa Xa))) v_0 a_0)) (σ:=[some v_0,none,none,none,none,none,none,none,none,none,none]) 1 ?_ (SC.i SC.t h_0) hm q rfl
 unfold Zn
 exact(Xw (K:=K) (r:=(rV (rV Xa))) 1 (Ev.sh (YG (Xc (r:=(rP2 (rV (rV Xa)) (rV (rP2 Xa Xa)))) 0 rfl (λ_ s=>s.r)))) λa1 v2=>(Ya (K:=K) (o:=(oL (oF (rP5 Xa Xa Xa Xa Xa)))) 2 0 (V3 (o:=(oF (rP5 Xa Xa Xa Xa Xa)))) (Nat.le_of_ble_eq_true rfl) λa5 v6 C7=>(ZX (K:=K) (J:=({oo:=λx9=>[x9.2.2.2.2.2.2.2.2.2],ss:=λx9=>[some v_0,some v2,some x9.2.2.2.2.2.2.2.2.1,x9.1,x9.2.1,x9.2.2.1,x9.2.2.2.1,x9.2.2.2.2.1,x9.2.2.2.2.2.1,x9.2.2.2.2.2.2.1,x9.2.2.2.2.2.2.2.1],sc:=λg10 x9=>(SC.addO (SC.add (SC.add SC.nil K (rP2 (rV (rV Xa)) (rV (rP2 Xa Xa))) v_0 a_0) K (rV (rV Xa)) v2 a1) K (oL (oF (rP5 Xa Xa Xa Xa Xa))) x9.2.2.2.2.2.2.2.2.1 g10 x9.2.2.2.2.2.2.2.2.2)}:Jn ((List (Int×Int×Int×Int×Int))) (Option V×Option V×Option V×Option V×Option V×Option V×Option V×Option V×V×List Xy))) (λ_=>tg2 3 4) ((none),(none),(none),(none),(none),(none),(none),(none),v6,C7) (a5) (XS (ET (Xi (r:=(rP2 (rV (rV Xa)) (rV (rP2 Xa Xa)))) 0 rfl (λ_ s=>s.l.l.r)))) rfl rfl (λ_ s=>(SC.i (SC.i (SC.i SC.t s.l.l.r) s.l.r) s.r)) (λg11 x12 a13 v14=>(Xw (K:=K) (r:=(rP2 Xa Xa)) 5 (EvB.sh (Ev.toB (YF (Xc (r:=(rP2 (rV (rV Xa)) (rV (rP2 Xa Xa)))) 0 rfl (λ_ s=>s.l.l.l.l.r)) (Xc (r:=Xa) 3 rfl (λ_ s=>s.l.r))))) λa15 v16=>(Xw (K:=K) (r:=(rP2 Xa Xa)) 6 (EvB.sh (Ev.toB (YF (Xc (r:=(rP2 (rV (rV Xa)) (rV (rP2 Xa Xa)))) 0 rfl (λ_ s=>s.l.l.l.l.l.r)) (QK (Xc (r:=Xa) 3 rfl (λ_ s=>s.l.l.r)))))) λa20 v21=>(Xw (K:=K) (r:=Xa) 7 (EvB.sh (XG (XG (Xc (r:=(rV (rV Xa))) 1 rfl (λ_ s=>s.l.l.l.l.l.r)) (DX (Xc (r:=(rP2 Xa Xa)) 5 rfl (λ_ s=>s.l.r)))) (UE (Xc (r:=(rP2 Xa Xa)) 5 rfl (λ_ s=>s.l.r))))) λa26 v27=>(Xw (K:=K) (r:=(rV Xa)) 8 (Ii (EvS.ls (Xi (r:=(rV (rV Xa))) 1 rfl (λ_ s=>s.l.l.l.l.l.l.r))) (DX (Xc (r:=(rP2 Xa Xa)) 6 rfl (λ_ s=>s.l.r)))) λa34 v35=>(Xw (K:=K) (r:=Xa) 9 (EvB.sh (XG (Xc (r:=(rV Xa)) 8 rfl (λ_ s=>s.r)) (UE (Xc (r:=(rP2 Xa Xa)) 6 rfl (λ_ s=>s.l.l.r))))) λa39 v40=>(Xw (K:=K) (r:=Xa) 10 (EvB.sh (XG (Xc (r:=(rV Xa)) 8 rfl (λ_ s=>s.l.r)) (XE (XM (UE (Xc (r:=(rP2 Xa Xa)) 6 rfl (λ_ s=>s.l.l.l.r))) (Xe 1)) (Qb (Xc (r:=(rV Xa)) 8 rfl (λ_ s=>s.l.r)))))) λa44 v45=>(Qk (K:=K) (o:=(oF (rP5 Xa Xa Xa Xa Xa))) (f:=λa61=>(Rs.ok (a61))) 2 0 rfl rfl rfl (λ_ s=>s.l.l.l.l.l.l.l.l.r) (EvS.ev (BC (Xi (r:=Xa) 3 rfl (λ_ s=>s.l.l.l.l.l.l.l.r)) (Xi (r:=Xa) 4 rfl (λ_ s=>s.l.l.l.l.l.l.r)) (Xi (r:=Xa) 7 rfl (λ_ s=>s.l.l.l.r)) (Xi (r:=Xa) 9 rfl (λ_ s=>s.l.r)) (Xi (r:=Xa) 10 rfl (λ_ s=>s.r)))) λa59 C60=>(XL (J:=_) ((some v14.1),(some v14.2),(some v16),(some v21),(some v27),(some v35),(some v40),(some v45),x12.2.2.2.2.2.2.2.2.1,C60) ((g11++[a59])) rfl rfl (λ_ s=>(SC.i (SC.i (SC.i SC.t s.l.l.l.l.l.l.l.l.l.l.l.r) s.l.l.l.l.l.l.l.l.l.l.r) s.r))))))))))) λg62 x63=>(XY (YI (o:=(oL (oF (rP5 Xa Xa Xa Xa Xa)))) 2 0 rfl rfl (λ_ s=>s.r))))))
theorem QL:FnScope ["drawing","told","crossing","sign","over","inward","outward"] ["drawing"] (Xk FG):=⟨rfl,rfl,rfl,by decide+kernel,rfl,by decide+kernel,by decide+kernel⟩
theorem ES (D:Def K mg "ties" FG ["drawing"])(g_meets:Fn P w K mg base 4 "meets" ["drawing"] (sp1 (rP2 (rV (rV Xa)) (rV (rP2 Xa Xa))) (oL (oF (rP5 Xa Xa Xa Xa Xa))) Zn K))(Z:Blt mg):Fn P w K mg base 5 "ties" ["drawing"] (sp1 (rP2 (rV (rV Xa)) (rV (rP2 Xa Xa))) (oL (oF (rP3 Xa Xa Xa))) VY K):=by
 refine YY D QL (λvs H Q E h=>?_) (λf cdv A outer s H vs Q E hr h=>?_)
 ·obtain⟨v_0,a_0,b,rfl,_⟩:=h;rfl
 obtain⟨v_0,a_0,b,rfl,h_0,hm,q⟩:=h
 have hu:=hu8 hr
 have hu1:=YX hr
 refine⟨_,(Xd (Xp (i:=1) QL.nd rfl (Or.inl rfl) (Yg Xg))
  (Xd (Zw PassesOwn.never rfl (X4 (K:=K) rfl (Yf g_meets hr (by decide) (Xb (pv 0) Xg))) (QG rfl (Xu (Xq (i:=2) QL.nd rfl (Or.inl rfl)) (Xu (Xq (i:=3) QL.nd rfl (Or.inl rfl)) (Xu (Xq (i:=4) QL.nd rfl (Or.inl rfl)) (Xu (Xq (i:=5) QL.nd rfl (Or.inl rfl)) (Xu (Xq (i:=6) QL.nd rfl (Or.inl rfl)) Y1))))))
   (Xd (YZ (Jq PySem.F.plainAttrs_list PySem.F.slot_list_append PySem.F.type_list_append Yh (pv 1) (Xb (Bs (XH Jo (pv 3) Xf (X2 _)) (X1 (Xb (pv 5) (Xb (pv 4) (Xb (pv 6) Xg)))) (X1 (Xb (pv 6) (Xb (pv 4) (Xb (pv 5) Xg))))) Xg)))
   Xj))
  (Xd (XJ (pv 1))
  Xj))),?_⟩
 refine Y8 (S:=(SC.add SC.nil K (rP2 (rV (rV Xa)) (rV (rP2 Xa Xa))) v_0 a_0)) (σ:=[some v_0,none,none,none,none,none,none]) 1 ?_ (SC.i SC.t h_0) hm q rfl
 unfold VY
 exact(Ya (K:=K) (o:=(oL (oF (rP3 Xa Xa Xa)))) 1 0 (V3 (o:=(oF (rP3 Xa Xa Xa)))) (Nat.le_of_ble_eq_true rfl) λa1 v2 C3=>(ZX (K:=K) (J:=({oo:=λx6=>[x6.2.2.2.2.2.2],ss:=λx6=>[some v_0,some x6.2.2.2.2.2.1,x6.1,x6.2.1,x6.2.2.1,x6.2.2.2.1,x6.2.2.2.2.1],sc:=λg7 x6=>(SC.addO (SC.add SC.nil K (rP2 (rV (rV Xa)) (rV (rP2 Xa Xa))) v_0 a_0) K (oL (oF (rP3 Xa Xa Xa))) x6.2.2.2.2.2.1 g7 x6.2.2.2.2.2.2)}:Jn ((List (Int×Int×Int))) (Option V×Option V×Option V×Option V×Option V×V×List Xy))) (λ_=>tg5 2 3 4 5 6) ((none),(none),(none),(none),(none),v2,C3) (a1) (XS (Ev.sh (YG (Xc (r:=(rP2 (rV (rV Xa)) (rV (rP2 Xa Xa)))) 0 rfl (λ_ s=>s.l.r))))) rfl rfl (λ_ s=>(SC.i (SC.i SC.t s.l.r) s.r)) (λg8 x9 a10 v11=>(Qk (K:=K) (o:=(oF (rP3 Xa Xa Xa))) (f:=λa23=>(Rs.ok (a23))) 1 0 rfl rfl rfl (λ_ s=>s.l.l.l.l.l.r) (LO (XA (K:=K) (ZW (Xc (r:=Xa) 3 rfl (λ_ s=>s.l.l.l.r)) (Xe 1))) (EvS.ev (Go (Xi (r:=Xa) 5 rfl (λ_ s=>s.l.r)) (Xi (r:=Xa) 4 rfl (λ_ s=>s.l.l.r)) (Xi (r:=Xa) 6 rfl (λ_ s=>s.r)))) (EvS.ev (Go (Xi (r:=Xa) 6 rfl (λ_ s=>s.r)) (Xi (r:=Xa) 4 rfl (λ_ s=>s.l.l.r)) (Xi (r:=Xa) 5 rfl (λ_ s=>s.l.r))))) λa21 C22=>(XL (J:=_) ((some v11.1),(some v11.2.1),(some v11.2.2.1),(some v11.2.2.2.1),(some v11.2.2.2.2),x9.2.2.2.2.2.1,C22) ((g8++[a21])) rfl rfl (λ_ s=>(SC.i (SC.i SC.t s.l.l.l.l.l.l.l.r) s.r))))) λg24 x25=>(XY (YI (o:=(oL (oF (rP3 Xa Xa Xa)))) 1 0 rfl rfl (λ_ s=>s.r)))))
theorem QH:FnScope ["number","divisor"] ["number"] (Xk Jc):=⟨rfl,rfl,rfl,by decide+kernel,rfl,by decide+kernel,by decide+kernel⟩
theorem Kz (D:Def K mg "is_prime" Jc ["number"])(Z:Blt mg):Fn P w K mg base 1 "is_prime" ["number"] (sp1 Xa (oF XZ) Zf K):=by
 refine YY D QH (λvs H Q E h=>?_) (λf cdv A outer s H vs Q E hr h=>?_)
 ·obtain⟨v_0,a_0,b,rfl,_⟩:=h;rfl
 obtain⟨v_0,a_0,b,rfl,h_0,hm,q⟩:=h
 have hu:=hu8 hr
 have hu1:=YX hr
 refine⟨_,(Xd (ZI (PW.pt (Lc (XH Fe (pv 0) Xf (X2 _)) (Eg (XH G2 (pv 0) (Iy Z.c_MOST_PRIME rfl) (X2 _)))))
   (Xd (XJ Gi)
   Xj)
   Xj)
  (Xd (Xp (i:=1) QH.nd rfl (Or.inl rfl) Xf)
  (Xd (JL PassesOwn.never (XH Mf (Xl Yq (pv 1) (pv 1)) (pv 0) (X2 _))
   (Xd (ZI (XH Jo (Xl XV (pv 0) (pv 1)) Xf (X2 _))
    (Xd (XJ Gi)
    Xj)
    Xj)
   (Xd (Kw (i:=1) QH.nd rfl (Or.inl rfl) Xf Kl)
   Xj)))
  (Xd (XJ Gi)
  Xj)))),?_⟩
 refine Y8 (S:=(SC.add SC.nil K Xa v_0 a_0)) (σ:=[some v_0,none]) 0 ?_ (SC.i SC.t h_0) hm q rfl
 unfold Zf
 exact(Gj (Em (XA (K:=K) (VZ (Xc (r:=Xa) 0 rfl (λ_ s=>s.r)) (Xe 2))) (XA (K:=K) (VT (Xc (r:=Xa) 0 rfl (λ_ s=>s.r)) (Xe 100000)))) (XY (EvS.ev (EvB.sh (Va false)))) (Xw (K:=K) (r:=Xa) 1 (EvB.sh (Xe 2)) λa6 v7=>(CA (K:=K) (J:=({oo:=λx8=>[],ss:=λx8=>[some v_0,some x8],sc:=λg9 x8=>(SC.add (SC.add SC.nil K Xa v_0 a_0) K Xa x8 g9)}:Jn (Int) (V))) (a_0.natAbs+2) (v7) (a6) rfl rfl (λ_ s=>(SC.i (SC.i SC.t s.l.r) s.r)) (λg10 x11=>(XA (K:=K) (IE (XT (Xc (r:=Xa) 1 rfl (λ_ s=>s.r)) (Xc (r:=Xa) 1 rfl (λ_ s=>s.r))) (Xc (r:=Xa) 0 rfl (λ_ s=>s.l.r))))) (λg10 x11=>(Cz (XA (K:=K) (ZW (XE (Xc (r:=Xa) 0 rfl (λ_ s=>s.l.r)) (Xc (r:=Xa) 1 rfl (λ_ s=>s.r))) (Xe 0))) (XY (EvS.ev (EvB.sh (Va false)))) (Dx (K:=K) (f:=λa23=>(Rs.bind (Rs.ok (a23)) λx24=>(Rs.ok (Ctl.nx x24)))) 1 rfl (λ_ s=>s.r) (Xe 1) λa23 v22=>(B2 (XL (J:=_) (v22) (a23) rfl rfl (λ_ s=>(SC.i (SC.i SC.t s.l.l.r) s.r))))))) λg26 x27=>(XY (EvS.ev (EvB.sh (Va true)))))))
theorem Vj:FnScope ["prime","factor"] ["prime","factor"] (Xk ZM):=⟨rfl,rfl,rfl,by decide+kernel,rfl,by decide+kernel,by decide+kernel⟩
theorem JZ (D:Def K mg "refuse_wrong" ZM ["prime","factor"])(g_is_prime:Fn P w K mg base 1 "is_prime" ["number"] (sp1 Xa (oF XZ) Zf K))(Z:Blt mg):Fn P w K mg base 2 "refuse_wrong" ["prime","factor"] (sp2 Xa Xa oU Yj K):=by
 refine YY D Vj (λvs H Q E h=>?_) (λf cdv A outer s H vs Q E hr h=>?_)
 ·obtain⟨v_0,v_1,a_0,a_1,b,rfl,_⟩:=h;rfl
 obtain⟨v_0,v_1,a_0,a_1,b,rfl,h_0,h_1,hm,q⟩:=h
 have hu:=hu8 hr
 have hu1:=YX hr
 refine⟨_,(Xd (ZI (Gq (Gv (Yf g_is_prime hr (by decide) (Xb (pv 0) Xg))))
   (Xd Uy
   Xj)
   Xj)
  (Xd (ZI (XH Jo (Xl XV (pv 1) (pv 0)) Xf (X2 _))
   (Xd Uy
   Xj)
   Xj)
  Xj)),?_⟩
 refine Me (J:=({oo:=λx3=>[],ss:=λx3=>[some v_0,some v_1],sc:=λg4 x3=>(SC.add (SC.add SC.nil K Xa v_0 a_0) K Xa v_1 a_1)}:Jn (Unit) (Unit))) (K:=K) (S:=(SC.add (SC.add SC.nil K Xa v_0 a_0) K Xa v_1 a_1)) (σ:=[some v_0,some v_1]) 0 ?_ (SC.i (SC.i SC.t h_0) h_1) hm q (λ_ _=>rfl)
 unfold Yj
 exact(B3 (Uz (GZ (K:=K) (Ev.toB (YG (Xc (r:=Xa) 0 rfl (λ_ s=>s.l.r)))))) (B3 (XA (K:=K) (ZW (XE (Xc (r:=Xa) 1 rfl (λ_ s=>s.r)) (Xc (r:=Xa) 0 rfl (λ_ s=>s.l.r))) (Xe 0))) (XL (J:=_) () () rfl rfl (λ_ s=>(SC.i (SC.i SC.t s.l.r) s.r)))))
theorem Yw:FnScope ["drawing","prime","factor","count","told","start","over","end","numbers"] ["drawing","prime","factor"] (Xk ZZ):=⟨rfl,rfl,rfl,by decide+kernel,rfl,by decide+kernel,by decide+kernel⟩
theorem UP (D:Def K mg "equations" ZZ ["drawing","prime","factor"])(g_refuse_wrong:Fn P w K mg base 2 "refuse_wrong" ["prime","factor"] (sp2 Xa Xa oU Yj K))(g_arc_count:Fn P w K mg base 2 "arc_count" ["drawing"] (sp1 (rP2 (rV (rV Xa)) (rV (rP2 Xa Xa))) (oF Xa) Ys K))(g_ties:Fn P w K mg base 5 "ties" ["drawing"] (sp1 (rP2 (rV (rV Xa)) (rV (rP2 Xa Xa))) (oL (oF (rP3 Xa Xa Xa))) VY K))(Z:Blt mg):Fn P w K mg base 6 "equations" ["drawing","prime","factor"] (sp3 (rP2 (rV (rV Xa)) (rV (rP2 Xa Xa))) Xa Xa (oL (oL (oF Xa))) Y0 K):=by
 refine YY D Yw (λvs H Q E h=>?_) (λf cdv A outer s H vs Q E hr h=>?_)
 ·obtain⟨v_0,v_1,v_2,a_0,a_1,a_2,b,rfl,_⟩:=h;rfl
 obtain⟨v_0,v_1,v_2,a_0,a_1,a_2,b,rfl,h_0,h_1,h_2,hm,q⟩:=h
 have hu:=hu8 hr
 have hu1:=YX hr
 refine⟨_,(Xd (YZ (Yf g_refuse_wrong hr (by decide) (Xb (pv 1) (Xb (pv 2) Xg))))
  (Xd (Xp (i:=3) Yw.nd rfl (Or.inl rfl) (Yf g_arc_count hr (by decide) (Xb (pv 0) Xg)))
  (Xd (Xp (i:=4) Yw.nd rfl (Or.inl rfl) (Yg Xg))
  (Xd (Zw PassesOwn.never rfl (X4 (K:=K) rfl (Yf g_ties hr (by decide) (Xb (pv 0) Xg))) (QG rfl (Xu (Xq (i:=5) Yw.nd rfl (Or.inl rfl)) (Xu (Xq (i:=6) Yw.nd rfl (Or.inl rfl)) (Xu (Xq (i:=7) Yw.nd rfl (Or.inl rfl)) Y1))))
   (Xd (Xp (i:=8) Yw.nd rfl (Or.inl rfl) (Xl Gr (Yg (Xb Xf Xg)) (pv 3)))
   (Xd (KY (pv 8) (pv 5) (Ud K rfl) (pv 2) Kl Qp)
   (Xd (KY (pv 8) (pv 6) (Ud K rfl) (Xl Zz Xf (pv 2)) Kl Qp)
   (Xd (KY (pv 8) (pv 7) (Ud K rfl) Xf Lq Qp)
   (Xd (YZ (Jq PySem.F.plainAttrs_list PySem.F.slot_list_append PySem.F.type_list_append Yh (pv 4) (Xb (Zu (sc:=(Xk ZZ)) (N0:=["drawing","prime","factor","count","told","start","over","end","numbers"]) (tns:=["number"]) (caps:=[(1,"prime")]) rfl (X4 (K:=K) rfl (pv 8)) (ZY (by decide)) (λcl C s H ex E=>⟨Xq (i:=0) (show List.Nodup (["number","prime"]:List Str) by decide+kernel) rfl (Or.inl rfl),ZG,(Xl XV (pv 0) (pv 1))⟩)) Xg)))
   Xj))))))
  (Xd (XJ (pv 4))
  Xj))))),?_⟩
 refine Y8 (S:=(SC.add (SC.add (SC.add SC.nil K (rP2 (rV (rV Xa)) (rV (rP2 Xa Xa))) v_0 a_0) K Xa v_1 a_1) K Xa v_2 a_2)) (σ:=[some v_0,some v_1,some v_2,none,none,none,none,none,none]) 2 ?_ (SC.i (SC.i (SC.i SC.t h_0) h_1) h_2) hm q rfl
 unfold Y0
 exact(EI (Ev.toB (YF (Xc (r:=Xa) 1 rfl (λ_ s=>s.l.r)) (Xc (r:=Xa) 2 rfl (λ_ s=>s.r)))) (Xw (K:=K) (r:=Xa) 3 (EvB.sh (Ev.toB (YG (Xc (r:=(rP2 (rV (rV Xa)) (rV (rP2 Xa Xa)))) 0 rfl (λ_ s=>s.l.l.r))))) λa5 v6=>(Ya (K:=K) (o:=(oL (oL (oF Xa)))) 4 0 (V3 (o:=(oL (oF Xa)))) (Nat.le_of_ble_eq_true rfl) λa9 v10 C11=>(ZX (K:=K) (J:=({oo:=λx14=>[x14.2.2.2.2.2,[]],ss:=λx14=>[some v_0,some v_1,some v_2,some v6,some x14.2.2.2.2.1,x14.1,x14.2.1,x14.2.2.1,x14.2.2.2.1],sc:=λg15 x14=>(SC.addO (SC.add (SC.add (SC.add (SC.add SC.nil K (rP2 (rV (rV Xa)) (rV (rP2 Xa Xa))) v_0 a_0) K Xa v_1 a_1) K Xa v_2 a_2) K Xa v6 a5) K (oL (oL (oF Xa))) x14.2.2.2.2.1 g15 x14.2.2.2.2.2)}:Jn ((List (List Int))) (Option V×Option V×Option V×Option V×V×List Xy))) (λ_=>tg3 5 6 7) ((none),(none),(none),(none),v10,C11) (a9) (XS (Ev.sh (YG (Xc (r:=(rP2 (rV (rV Xa)) (rV (rP2 Xa Xa)))) 0 rfl (λ_ s=>s.l.l.l.l.r))))) rfl rfl (λ_ s=>(SC.i (SC.i (SC.i (SC.i (SC.i SC.t s.l.l.l.l.r) s.l.l.l.r) s.l.l.r) s.l.r) s.r)) (λg16 x17 a18 v19=>(Ya (K:=K) (o:=(oL (oF Xa))) 8 1 (GJ (Ev.ls (Zi (Xm (EvB.sh (Xe 0)) YL))) (Xc (r:=Xa) 3 rfl (λ_ s=>s.l.l.l.l.r))) (Nat.le_of_ble_eq_true rfl) λa20 v21 C22=>(UL (K:=K) (g:=λi j=>i+j) (f:=λa28=>(Rs.bind (Rs.ok a18.2.1) λx37=>(Rs.bind (atR a28 x37) λx38=>(Rs.bind (Rs.bind (Rs.ok (1:Int)) λx33=>(Rs.bind (Rs.ok a_2) λx34=>(Rs.ok (x33-x34)))) λx39=>(Rs.bind (Vd a28 x37 (x38+x39)) λa35=>(Rs.bind (Rs.ok a18.2.2) λx42=>(Rs.bind (atR a35 x42) λx43=>(Rs.bind (Rs.ok (1:Int)) λx44=>(Rs.bind (Vd a35 x42 (x43-x44)) λa40=>(Rs.bind (Rs.bind (Rs.ok a40) λx48=>(UW x48 (λa46=>(Rs.bind (Rs.ok a46) λx49=>(Rs.bind (Rs.ok a_1) λx50=>(Zy x49 x50)))))) λa51=>(chk (g16.length<sizeLine) ((λa53=>(Rs.ok (a53))) (g16++[a51]))))))))))))) 8 1 rfl rfl (λ_ s=>s.r) (Xc (r:=Xa) 5 rfl (λ_ s=>s.l.l.l.r)) (Xc (r:=Xa) 2 rfl (λ_ s=>s.l.l.l.l.l.l.r)) λa28 C29=>(UL (K:=K) (g:=λi j=>i+j) (f:=λa35=>(Rs.bind (Rs.ok a18.2.2) λx42=>(Rs.bind (atR a35 x42) λx43=>(Rs.bind (Rs.ok (1:Int)) λx44=>(Rs.bind (Vd a35 x42 (x43-x44)) λa40=>(Rs.bind (Rs.bind (Rs.ok a40) λx48=>(UW x48 (λa46=>(Rs.bind (Rs.ok a46) λx49=>(Rs.bind (Rs.ok a_1) λx50=>(Zy x49 x50)))))) λa51=>(chk (g16.length<sizeLine) ((λa53=>(Rs.ok (a53))) (g16++[a51]))))))))) 8 1 rfl rfl (λ_ s=>s.r) (Xc (r:=Xa) 6 rfl (λ_ s=>s.l.l.l.r)) (YO (Xe 1) (Xc (r:=Xa) 2 rfl (λ_ s=>s.l.l.l.l.l.l.l.r))) λa35 C36=>(UL (K:=K) (g:=λi j=>i-j) (f:=λa40=>(Rs.bind (Rs.bind (Rs.ok a40) λx48=>(UW x48 (λa46=>(Rs.bind (Rs.ok a46) λx49=>(Rs.bind (Rs.ok a_1) λx50=>(Zy x49 x50)))))) λa51=>(chk (g16.length<sizeLine) ((λa53=>(Rs.ok (a53))) (g16++[a51]))))) 8 1 rfl rfl (λ_ s=>s.r) (Xc (r:=Xa) 7 rfl (λ_ s=>s.l.l.l.r)) (Xe 1) λa40 C41=>(Qk (K:=K) (o:=(oL (oF Xa))) (f:=λa53=>(Rs.ok (a53))) 4 0 rfl rfl rfl (λ_ s=>s.l.l.l.l.l.l.l.r) (K6 (K:=K) (o1:=(oL (oF Xa))) 1 rfl (λ_ s=>s.r) (ZK (λ_=>tg1 0) (XS (Xi (r:=(rV Xa)) 8 rfl (λ_ s=>s.r))) (λC45 a46 v47=>(EvS.ev (EvB.sh (XE (Xc (r:=Xa) 0 rfl (λ_ s=>s.r)) (Xc (r:=Xa) 1 rfl (λ_ s=>s.l.l.l.l.l.l.l.l.l.l.l.l.r)))))))) λa51 C52=>(EN 1 (XL (J:=_) ((some v19.1),(some v19.2.1),(some v19.2.2),(some v21),x17.2.2.2.2.1,C52) ((g16++[a51])) rfl rfl (λ_ s=>(SC.i (SC.i (SC.i (SC.i (SC.i SC.t s.l.l.l.l.l.l.l.l.l.l.l.l.r) s.l.l.l.l.l.l.l.l.l.l.l.r) s.l.l.l.l.l.l.l.l.l.l.r) s.l.l.l.l.l.l.l.l.l.r) s.r)))))))))) λg54 x55=>(XY (YI (o:=(oL (oL (oF Xa)))) 4 0 rfl rfl (λ_ s=>s.r)))))))
theorem BM:FnScope ["row","number","prime"] ["row","number","prime"] (Xk Uc):=⟨rfl,rfl,rfl,by decide+kernel,rfl,by decide+kernel,by decide+kernel⟩
theorem BP (D:Def K mg "times" Uc ["row","number","prime"])(Z:Blt mg):Fn P w K mg base 1 "times" ["row","number","prime"] (sp3 (rV Xa) Xa Xa (oL (oF Xa)) Jj K):=by
 refine YY D BM (λvs H Q E h=>?_) (λf cdv A outer s H vs Q E hr h=>?_)
 ·obtain⟨v_0,v_1,v_2,a_0,a_1,a_2,b,rfl,_⟩:=h;rfl
 obtain⟨v_0,v_1,v_2,a_0,a_1,a_2,b,rfl,h_0,h_1,h_2,hm,q⟩:=h
 have hu:=hu8 hr
 have hu1:=YX hr
 refine⟨_,(Xd (XJ (Zu (sc:=(Xk Uc)) (N0:=["row","number","prime"]) (tns:=["entry"]) (caps:=[(1,"number"),(2,"prime")]) rfl (X4 (K:=K) rfl (pv 0)) (ZY (by decide)) (λcl C s H ex E=>⟨Xq (i:=0) (show List.Nodup (["entry","number","prime"]:List Str) by decide+kernel) rfl (Or.inl rfl),ZG,(Xl XV (Xl Yq (pv 1) (pv 0)) (pv 2))⟩)))
  Xj),?_⟩
 refine Y8 (S:=(SC.add (SC.add (SC.add SC.nil K (rV Xa) v_0 a_0) K Xa v_1 a_1) K Xa v_2 a_2)) (σ:=[some v_0,some v_1,some v_2]) 0 ?_ (SC.i (SC.i (SC.i SC.t h_0) h_1) h_2) hm q rfl
 unfold Jj
 exact(XY (ZK (λ_=>tg1 0) (XS (Xi (r:=(rV Xa)) 0 rfl (λ_ s=>s.l.l.r))) (λC1 a2 v3=>(EvS.ev (EvB.sh (XE (XT (Xc (r:=Xa) 1 rfl (λ_ s=>s.l.l.r)) (Xc (r:=Xa) 0 rfl (λ_ s=>s.r))) (Xc (r:=Xa) 2 rfl (λ_ s=>s.l.r))))))))
theorem XW:FnScope ["number","prime","told","square","left"] ["number","prime"] (Xk ZH):=⟨rfl,rfl,rfl,by decide+kernel,rfl,by decide+kernel,by decide+kernel⟩
theorem Vq (D:Def K mg "inverse_rest" ZH ["number","prime"])(Z:Blt mg):Fn P w K mg base 1 "inverse_rest" ["number","prime"] (sp2 Xa Xa (oF Xa) Yn K):=by
 refine YY D XW (λvs H Q E h=>?_) (λf cdv A outer s H vs Q E hr h=>?_)
 ·obtain⟨v_0,v_1,a_0,a_1,b,rfl,_⟩:=h;rfl
 obtain⟨v_0,v_1,a_0,a_1,b,rfl,h_0,h_1,hm,q⟩:=h
 have hu:=hu8 hr
 have hu1:=YX hr
 refine⟨_,(Xd (Xp (i:=2) XW.nd rfl (Or.inl rfl) Xf)
  (Xd (Xp (i:=3) XW.nd rfl (Or.inl rfl) (pv 0))
  (Xd (Xp (i:=4) XW.nd rfl (Or.inl rfl) (Xl Zz (pv 1) Xf))
  (Xd (JL PassesOwn.never (XH G2 (pv 4) Xf (X2 _))
   (Xd (ZI (XH Jo (Xl XV (pv 4) Xf) Xf (X2 _))
    (Xd (Xp (i:=2) XW.nd rfl (Or.inl rfl) (Xl XV (Xl Yq (pv 2) (pv 3)) (pv 1)))
    Xj)
    Xj)
   (Xd (Xp (i:=3) XW.nd rfl (Or.inl rfl) (Xl XV (Xl Yq (pv 3) (pv 3)) (pv 1)))
   (Xd (Kw (i:=4) XW.nd rfl (Or.inl rfl) Xf Ha)
   Xj))))
  (Xd (XJ (pv 2))
  Xj))))),?_⟩
 refine Y8 (S:=(SC.add (SC.add SC.nil K Xa v_0 a_0) K Xa v_1 a_1)) (σ:=[some v_0,some v_1,none,none,none]) 0 ?_ (SC.i (SC.i SC.t h_0) h_1) hm q rfl
 unfold Yn
 exact(Xw (K:=K) (r:=Xa) 2 (EvB.sh (Xe 1)) λa1 v2=>(Xw (K:=K) (r:=Xa) 3 (Xi (r:=Xa) 0 rfl (λ_ s=>s.l.l.r)) λa3 v4=>(Xw (K:=K) (r:=Xa) 4 (EvB.sh (YO (Xc (r:=Xa) 1 rfl (λ_ s=>s.l.l.r)) (Xe 2))) λa5 v6=>(Uo (J:=({oo:=λx9=>[],ss:=λx9=>[some v_0,some v_1,some x9.2.2,some x9.1,some x9.2.1],sc:=λg10 x9=>(SC.add (SC.add (SC.add (SC.add (SC.add SC.nil K Xa v_0 a_0) K Xa v_1 a_1) K Xa x9.1 g10.1) K Xa x9.2.1 g10.2.1) K Xa x9.2.2 g10.2.2)}:Jn (Int×Int×Int) (V×V×V))) (100) (v4,v6,v2) (a3,a5,a1) rfl rfl (λ_ s=>(SC.i (SC.i (SC.i (SC.i (SC.i SC.t s.l.l.l.l.r) s.l.l.l.r) s.l.r) s.r) s.l.l.r)) (λg11 x12=>(XA (K:=K) (VT (Xc (r:=Xa) 4 rfl (λ_ s=>s.l.r)) (Xe 0)))) (λg11 x12=>(Z5 (J:=({oo:=λx20=>[],ss:=λx20=>[some v_0,some v_1,some x20,some x12.1,some x12.2.1],sc:=λg21 x20=>(SC.add (SC.add (SC.add (SC.add (SC.add SC.nil K Xa v_0 a_0) K Xa v_1 a_1) K Xa x12.1 g11.1) K Xa x12.2.1 g11.2.1) K Xa x20 g21)}:Jn (Int) (V))) (QZ (Fd:=FNd ({oo:=λx20=>[],ss:=λx20=>[some v_0,some v_1,some x20,some x12.1,some x12.2.1],sc:=λg21 x20=>(SC.add (SC.add (SC.add (SC.add (SC.add SC.nil K Xa v_0 a_0) K Xa v_1 a_1) K Xa x12.1 g11.1) K Xa x12.2.1 g11.2.1) K Xa x20 g21)}:Jn (Int) (V))) (XA (K:=K) (ZW (XE (Xc (r:=Xa) 4 rfl (λ_ s=>s.l.r)) (Xe 2)) (Xe 1))) (Xw (K:=K) (r:=Xa) 2 (EvB.sh (XE (XT (Xc (r:=Xa) 2 rfl (λ_ s=>s.r)) (Xc (r:=Xa) 3 rfl (λ_ s=>s.l.l.r))) (Xc (r:=Xa) 1 rfl (λ_ s=>s.l.l.l.r)))) λa22 v23=>(XL (J:=_) (v23) (a22) rfl rfl (λ_ s=>(SC.i (SC.i (SC.i (SC.i (SC.i SC.t s.l.l.l.l.l.r) s.l.l.l.l.r) s.l.l.l.r) s.l.l.r) s.r)))) (XL (J:=_) (x12.2.2) (g11.2.2) rfl rfl (λ_ s=>(SC.i (SC.i (SC.i (SC.i (SC.i SC.t s.l.l.l.l.r) s.l.l.l.r) s.l.l.r) s.l.r) s.r)))) λg29 x28=>(Xw (K:=K) (r:=Xa) 3 (EvB.sh (XE (XT (Xc (r:=Xa) 3 rfl (λ_ s=>s.l.l.r)) (Xc (r:=Xa) 3 rfl (λ_ s=>s.l.l.r))) (Xc (r:=Xa) 1 rfl (λ_ s=>s.l.l.l.r)))) λa30 v31=>(Ez (K:=K) 4 rfl (λ_ s=>s.l.l.r) (Xe 2) λa38 v37=>(XL (J:=_) (v31,v37,x28) (a30,a38,g29) rfl rfl (λ_ s=>(SC.i (SC.i (SC.i (SC.i (SC.i SC.t s.l.l.l.l.l.l.r) s.l.l.l.l.l.r) s.l.r) s.r) s.l.l.r))))))) λg39 x40=>(XY (EvS.ev (Xi (r:=Xa) 2 rfl (λ_ s=>s.r))))))))
theorem GR:FnScope ["row","lead","arc","prime"] ["row","lead","arc","prime"] (Xk Q7):=⟨rfl,rfl,rfl,by decide+kernel,rfl,by decide+kernel,by decide+kernel⟩
theorem GT (D:Def K mg "cleared" Q7 ["row","lead","arc","prime"])(Z:Blt mg):Fn P w K mg base 1 "cleared" ["row","lead","arc","prime"] (sp4 (rV Xa) (rV Xa) Xa Xa (oL (oF Xa)) Y7 K):=by
 refine YY D GR (λvs H Q E h=>?_) (λf cdv A outer s H vs Q E hr h=>?_)
 ·obtain⟨v_0,v_1,v_2,v_3,a_0,a_1,a_2,a_3,b,rfl,_⟩:=h;rfl
 obtain⟨v_0,v_1,v_2,v_3,a_0,a_1,a_2,a_3,b,rfl,h_0,h_1,h_2,h_3,hm,q⟩:=h
 have hu:=hu8 hr
 have hu1:=YX hr
 refine⟨_,(Xd (XJ (Zu (sc:=(Xk Q7)) (N0:=["row","lead","arc","prime"]) (tns:=["entry","other"]) (caps:=[(0,"row"),(2,"arc"),(3,"prime")]) rfl (Lv K rfl rfl Z.b_zip (Xb (pv 0) (Xb (pv 1) Xg))) (V4 (by decide) (by decide)) (λcl C s H ex E=>⟨Ub K rfl rfl (Xu (Xq (i:=0) (show List.Nodup (["entry","other","row","arc","prime"]:List Str) by decide+kernel) rfl (Or.inl rfl)) (Xu (Xq (i:=1) (show List.Nodup (["entry","other","row","arc","prime"]:List Str) by decide+kernel) rfl (Or.inl rfl)) Y1)),ZG,(Xl XV (Xl Zz (pv 0) (Xl Yq (XQ (Xo K rfl) (pv 2) (pv 3) (λ_ _=>rfl)) (pv 1))) (pv 4))⟩)))
  Xj),?_⟩
 refine Y8 (S:=(SC.add (SC.add (SC.add (SC.add SC.nil K (rV Xa) v_0 a_0) K (rV Xa) v_1 a_1) K Xa v_2 a_2) K Xa v_3 a_3)) (σ:=[some v_0,some v_1,some v_2,some v_3]) 0 ?_ (SC.i (SC.i (SC.i (SC.i SC.t h_0) h_1) h_2) h_3) hm q rfl
 unfold Y7
 exact(XY (ZK (λ_=>tg2 0 1) (Bz (Xi (r:=(rV Xa)) 0 rfl (λ_ s=>s.l.l.l.r)) (Xi (r:=(rV Xa)) 1 rfl (λ_ s=>s.l.l.r))) (λC3 a4 v5=>(EvS.ev (EvB.sh (XE (YO (Xc (r:=Xa) 0 rfl (λ_ s=>s.l.r)) (XT (XG (Xc (r:=(rV Xa)) 2 rfl (λ_ s=>s.l.l.l.l.l.r)) (Xc (r:=Xa) 3 rfl (λ_ s=>s.l.l.l.r))) (Xc (r:=Xa) 1 rfl (λ_ s=>s.r)))) (Xc (r:=Xa) 4 rfl (λ_ s=>s.l.l.r))))))))
theorem Yt:FnScope ["rows","count","prime","told","waiting","arc","leads","lead"] ["rows","count","prime"] (Xk Zd):=⟨rfl,rfl,rfl,by decide+kernel,rfl,by decide+kernel,by decide+kernel⟩
theorem KG (D:Def K mg "led_rows" Zd ["rows","count","prime"])(g_times:Fn P w K mg base 1 "times" ["row","number","prime"] (sp3 (rV Xa) Xa Xa (oL (oF Xa)) Jj K))(g_inverse_rest:Fn P w K mg base 1 "inverse_rest" ["number","prime"] (sp2 Xa Xa (oF Xa) Yn K))(g_cleared:Fn P w K mg base 1 "cleared" ["row","lead","arc","prime"] (sp4 (rV Xa) (rV Xa) Xa Xa (oL (oF Xa)) Y7 K))(Z:Blt mg):Fn P w K mg base 2 "led_rows" ["rows","count","prime"] (sp3 (rV (rV Xa)) Xa Xa (oL (oT2 (oF Xa) (oL (oF Xa)))) Ze K):=by
 refine YY D Yt (λvs H Q E h=>?_) (λf cdv A outer s H vs Q E hr h=>?_)
 ·obtain⟨v_0,v_1,v_2,a_0,a_1,a_2,b,rfl,_⟩:=h;rfl
 obtain⟨v_0,v_1,v_2,a_0,a_1,a_2,b,rfl,h_0,h_1,h_2,hm,q⟩:=h
 have hu:=hu8 hr
 have hu1:=YX hr
 refine⟨_,(Xd (Xp (i:=3) Yt.nd rfl (Or.inl rfl) (Yg Xg))
  (Xd (Xp (i:=4) Yt.nd rfl (Or.inl rfl) (pv 0))
  (Xd (Zw PassesOwn.never rfl (Zj rfl Z.b_range (Xb (pv 1) Xg)) (Xq (i:=5) Yt.nd rfl (Or.inr rfl))
   (Xd (J5 6 (Xk Zd) ["rows","count","prime","told","waiting","arc","leads","lead"] ["row"] [(5,"arc")] rfl Yt.nd rfl rfl (X4 (K:=K) rfl (pv 4)) (ZY (by decide)) (λcl C s H ex E=>⟨Xq (i:=0) (show List.Nodup (["row","arc"]:List Str) by decide+kernel) rfl (Or.inl rfl),(KA (XH Iu (XQ (Xo K rfl) (pv 0) (pv 1) (λ_ _=>rfl)) Xf (X2 _))),(pv 0)⟩))
   (Xd (ZI (XH G2 (Yp (XU K rfl) rfl Z.b_len PySem.boot_len (Xb (pv 6) Xg)) Xf (X2 _))
    (Xd (Xp (i:=7) Yt.nd rfl (Or.inr rfl) (Yf g_times hr (by decide) (Xb (XQ (Xo K rfl) (pv 6) Xf (λ_ _=>rfl)) (Xb (Yf g_inverse_rest hr (by decide) (Xb (XQ (Xo K rfl) (XQ (Xo K rfl) (pv 6) Xf (λ_ _=>rfl)) (pv 5) (λ_ _=>rfl)) (Xb (pv 2) Xg))) (Xb (pv 2) Xg)))))
    (Xd (J5 4 (Xk Zd) ["rows","count","prime","told","waiting","arc","leads","lead"] ["row"] [(7,"lead"),(5,"arc"),(2,"prime")] rfl Yt.nd rfl rfl (X4 (K:=K) rfl (pv 4)) (ZY (by decide)) (λcl C s H ex E=>⟨Xq (i:=0) (show List.Nodup (["row","lead","arc","prime"]:List Str) by decide+kernel) rfl (Or.inl rfl),ZG,(Yf g_cleared hr (by decide) (Xb (pv 0) (Xb (pv 1) (Xb (pv 2) (Xb (pv 3) Xg)))))⟩))
    (Xd (Xp (i:=3) Yt.nd rfl (Or.inl rfl) (Xl Zk (Zu (sc:=(Xk Zd)) (N0:=["rows","count","prime","told","waiting","arc","leads","lead"]) (tns:=["other","row"]) (caps:=[(7,"lead"),(5,"arc"),(2,"prime")]) rfl (X4 (K:=K) rfl (pv 3)) (V4 (by decide) (by decide)) (λcl C s H ex E=>⟨Ub K rfl rfl (Xu (Xq (i:=0) (show List.Nodup (["other","row","lead","arc","prime"]:List Str) by decide+kernel) rfl (Or.inl rfl)) (Xu (Xq (i:=1) (show List.Nodup (["other","row","lead","arc","prime"]:List Str) by decide+kernel) rfl (Or.inl rfl)) Y1)),ZG,(X1 (Xb (pv 0) (Xb (Yf g_cleared hr (by decide) (Xb (pv 1) (Xb (pv 2) (Xb (pv 3) (Xb (pv 4) Xg))))) Xg)))⟩)) (Yg (Xb (X1 (Xb (pv 5) (Xb (pv 7) Xg))) Xg))))
    Xj)))
    Xj)
   Xj)))
  (Xd (XJ (pv 3))
  Xj)))),?_⟩
 refine Y8 (S:=(SC.add (SC.add (SC.add SC.nil K (rV (rV Xa)) v_0 a_0) K Xa v_1 a_1) K Xa v_2 a_2)) (σ:=[some v_0,some v_1,some v_2,none,none,none,none,none]) 2 ?_ (SC.i (SC.i (SC.i SC.t h_0) h_1) h_2) hm q rfl
 unfold Ze
 exact(Ya (K:=K) (o:=(oL (oT2 (oF Xa) (oL (oF Xa))))) 3 0 (V3 (o:=(oT2 (oF Xa) (oL (oF Xa))))) (Nat.le_of_ble_eq_true rfl) λa1 v2 C3=>(Xw (K:=K) (r:=(rV (rV Xa))) 4 (Xi (r:=(rV (rV Xa))) 0 rfl (λ_ s=>s.l.l.l.r)) λa4 v5=>(ZX (K:=K) (J:=({oo:=λx7=>[x7.2.2.2.2.2,[]],ss:=λx7=>[some v_0,some v_1,some v_2,some x7.2.2.2.2.1,some x7.2.2.2.1,x7.1,x7.2.1,x7.2.2.1],sc:=λg8 x7=>(SC.addO (SC.add (SC.add (SC.add (SC.add SC.nil K (rV (rV Xa)) v_0 a_0) K Xa v_1 a_1) K Xa v_2 a_2) K (rV (rV Xa)) x7.2.2.2.1 g8.1) K (oL (oT2 (oF Xa) (oL (oF Xa)))) x7.2.2.2.2.1 g8.2 x7.2.2.2.2.2)}:Jn ((List (List Int))×(List (Int×(List Int)))) (Option V×Option V×Option V×V×V×List Xy))) (λ_=>tg1 5) ((none),(none),(none),v5,v2,C3) (a4,a1) (YJ (Xc (r:=Xa) 1 rfl (λ_ s=>s.l.l.l.r))) rfl rfl (λ_ s=>(SC.i (SC.i (SC.i (SC.i (SC.i SC.t s.l.l.l.l.r) s.l.l.l.r) s.l.l.r) s.r) s.l.r)) (λg9 x10 a11 v12=>(Xw (K:=K) (r:=(rV (rV Xa))) 6 (Ev.sh (Ug (λ_=>tg1 0) (XS (Xi (r:=(rV (rV Xa))) 4 rfl (λ_ s=>s.l.l.r))) (λC15 a16 v17=>(XA (K:=K) (B0 (XG (Xc (r:=(rV Xa)) 0 rfl (λ_ s=>s.r)) (Xc (r:=Xa) 1 rfl (λ_ s=>s.l.r))) (Xe 0)))) (λC15 a16 v17=>(EvS.ev (Xi (r:=(rV Xa)) 0 rfl (λ_ s=>s.r)))))) λa13 v14=>(Z5 (J:=({oo:=λx27=>[x27.2.2.2,[]],ss:=λx27=>[some v_0,some v_1,some v_2,some x27.2.2.1,some x27.2.1,some v12,some v14,x27.1],sc:=λg28 x27=>(SC.addO (SC.add (SC.add (SC.add (SC.add (SC.add (SC.add SC.nil K (rV (rV Xa)) v_0 a_0) K Xa v_1 a_1) K Xa v_2 a_2) K Xa v12 a11) K (rV (rV Xa)) v14 a13) K (rV (rV Xa)) x27.2.1 g28.1) K (oL (oT2 (oF Xa) (oL (oF Xa)))) x27.2.2.1 g28.2 x27.2.2.2)}:Jn ((List (List Int))×(List (Int×(List Int)))) (Option V×V×V×List Xy))) (QZ (Fd:=FNd ({oo:=λx27=>[x27.2.2.2,[]],ss:=λx27=>[some v_0,some v_1,some v_2,some x27.2.2.1,some x27.2.1,some v12,some v14,x27.1],sc:=λg28 x27=>(SC.addO (SC.add (SC.add (SC.add (SC.add (SC.add (SC.add SC.nil K (rV (rV Xa)) v_0 a_0) K Xa v_1 a_1) K Xa v_2 a_2) K Xa v12 a11) K (rV (rV Xa)) v14 a13) K (rV (rV Xa)) x27.2.1 g28.1) K (oL (oT2 (oF Xa) (oL (oF Xa)))) x27.2.2.1 g28.2 x27.2.2.2)}:Jn ((List (List Int))×(List (Int×(List Int)))) (Option V×V×V×List Xy))) (XA (K:=K) (VT (Qb (Xc (r:=(rV (rV Xa))) 6 rfl (λ_ s=>s.r))) (Xe 0))) (Ya (K:=K) (o:=(oL (oF Xa))) 7 1 (Y3 (XG (Xc (r:=(rV (rV Xa))) 6 rfl (λ_ s=>s.r)) (Xe 0)) (Ev.toB (YF (XG (XG (Xc (r:=(rV (rV Xa))) 6 rfl (λ_ s=>s.r)) (Xe 0)) (Xc (r:=Xa) 5 rfl (λ_ s=>s.l.r))) (Xc (r:=Xa) 2 rfl (λ_ s=>s.l.l.l.l.r)))) (Xc (r:=Xa) 2 rfl (λ_ s=>s.l.l.l.l.r))) (Nat.le_of_ble_eq_true rfl) λa29 v30 C31=>(Xw (K:=K) (r:=(rV (rV Xa))) 4 (Ev.sh (ZK (λ_=>tg1 0) (XS (Xi (r:=(rV (rV Xa))) 4 rfl (λ_ s=>s.l.l.l.l.r))) (λC47 a48 v49=>(UK (Xc (r:=(rV Xa)) 0 rfl (λ_ s=>s.r)) (Vu (o:=(oL (oF Xa))) 1 2 rfl rfl (λ_ s=>s.l.r)) (Xc (r:=Xa) 2 rfl (λ_ s=>s.l.l.l.r)) (Xc (r:=Xa) 3 rfl (λ_ s=>s.l.l.l.l.l.l.r)))))) λa45 v46=>(Ya (K:=K) (o:=(oL (oT2 (oF Xa) (oL (oF Xa))))) 3 0 (Hb (K6 (K:=K) (o1:=(oL (oT2 (oF Xa) (oL (oF Xa))))) 0 rfl (λ_ s=>s.l.l.l.l.r) (ZK (λ_=>tg2 0 1) (XS (Xi (r:=(rV (rP2 Xa (rV Xa)))) 3 rfl (λ_ s=>s.r))) (λC61 a62 v63=>(QR (EvS.ev (Xi (r:=Xa) 0 rfl (λ_ s=>s.l.r))) λ_=>(UK (Xc (r:=(rV Xa)) 1 rfl (λ_ s=>s.r)) (Vu (o:=(oL (oF Xa))) 2 3 rfl rfl (λ_ s=>s.l.l.l.l.r)) (Xc (r:=Xa) 3 rfl (λ_ s=>s.l.l.l.l.l.l.r)) (Xc (r:=Xa) 4 rfl (λ_ s=>s.l.l.l.l.l.l.l.l.l.r))))))) λ_=>(Hq (Dr (QR (EvS.ev (Xi (r:=Xa) 5 rfl (λ_ s=>s.l.l.l.r))) λ_=>(YI (o:=(oL (oF Xa))) 7 3 rfl rfl (λ_ s=>s.l.r))) λ_=>BR))) (Nat.le_of_ble_eq_true rfl) λa56 v57 C58=>(XL (J:=_) ((some v30),v46,v57,C58) (a45,a56) rfl rfl (λ_ s=>(SC.i (SC.i (SC.i (SC.i (SC.i (SC.i (SC.i SC.t s.l.l.l.l.l.l.l.l.l.r) s.l.l.l.l.l.l.l.l.r) s.l.l.l.l.l.l.l.r) s.l.l.l.l.r) s.l.l.l.r) s.l.r) s.r)))))) (XL (J:=_) ((x10.2.2.1),x10.2.2.2.1,x10.2.2.2.2.1,x10.2.2.2.2.2) (g9.1,g9.2) rfl rfl (λ_ s=>(SC.i (SC.i (SC.i (SC.i (SC.i (SC.i (SC.i SC.t s.l.l.l.l.l.l.r) s.l.l.l.l.l.r) s.l.l.l.l.r) s.l.r) s.r) s.l.l.l.r) s.l.l.r)))) λg78 x77=>(XL (J:=_) ((some v12),(some v14),(x77.1),x77.2.1,x77.2.2.1,x77.2.2.2) (g78.1,g78.2) rfl rfl (λ_ s=>(SC.i (SC.i (SC.i (SC.i (SC.i SC.t s.l.l.l.l.l.l.r) s.l.l.l.l.l.r) s.l.l.l.l.r) s.l.r) s.r)))))) λg79 x80=>(XY (YI (o:=(oL (oT2 (oF Xa) (oL (oF Xa))))) 3 0 rfl rfl (λ_ s=>s.r))))))
theorem CP:FnScope ["count","at","numbers"] ["count","at"] (Xk F9):=⟨rfl,rfl,rfl,by decide+kernel,rfl,by decide+kernel,by decide+kernel⟩
theorem Ew (D:Def K mg "unit" F9 ["count","at"])(Z:Blt mg):Fn P w K mg base 1 "unit" ["count","at"] (sp2 Xa Xa (oL (oF Xa)) JD K):=by
 refine YY D CP (λvs H Q E h=>?_) (λf cdv A outer s H vs Q E hr h=>?_)
 ·obtain⟨v_0,v_1,a_0,a_1,b,rfl,_⟩:=h;rfl
 obtain⟨v_0,v_1,a_0,a_1,b,rfl,h_0,h_1,hm,q⟩:=h
 have hu:=hu8 hr
 have hu1:=YX hr
 refine⟨_,(Xd (Xp (i:=2) CP.nd rfl (Or.inl rfl) (Xl Gr (Yg (Xb Xf Xg)) (pv 0)))
  (Xd (Vx Xf (DI (pv 2) (pv 1) Qp))
  (Xd (XJ (pv 2))
  Xj))),?_⟩
 refine Y8 (S:=(SC.add (SC.add SC.nil K Xa v_0 a_0) K Xa v_1 a_1)) (σ:=[some v_0,some v_1,none]) 1 ?_ (SC.i (SC.i SC.t h_0) h_1) hm q rfl
 unfold JD
 exact(Ya (K:=K) (o:=(oL (oF Xa))) 2 0 (GJ (Ev.ls (Zi (Xm (EvB.sh (Xe 0)) YL))) (Xc (r:=Xa) 0 rfl (λ_ s=>s.l.r))) (Nat.le_of_ble_eq_true rfl) λa1 v2 C3=>(Um (K:=K) (o:=(oF Xa)) 2 0 rfl rfl (λ_ s=>s.r) (EvS.ev (EvB.sh (Xe 1))) (λ_=>(Xc (r:=Xa) 1 rfl (λ_ s=>s.l.r))) λa11 C12=>(XY (YI (o:=(oL (oF Xa))) 2 0 rfl rfl (λ_ s=>s.r)))))
theorem Vo:FnScope ["rows"] ["rows"] (Xk Y4):=⟨rfl,rfl,rfl,by decide+kernel,rfl,by decide+kernel,by decide+kernel⟩
theorem J6 (D:Def K mg "with_factors" Y4 ["rows"])(g_unit:Fn P w K mg base 1 "unit" ["count","at"] (sp2 Xa Xa (oL (oF Xa)) JD K))(Z:Blt mg):Fn P w K mg base 2 "with_factors" ["rows"] (sp1 (rV (rV Xa)) (oL (oL (oF Xa))) Ym K):=by
 refine YY D Vo (λvs H Q E h=>?_) (λf cdv A outer s H vs Q E hr h=>?_)
 ·obtain⟨v_0,a_0,b,rfl,_⟩:=h;rfl
 obtain⟨v_0,a_0,b,rfl,h_0,hm,q⟩:=h
 have hu:=hu8 hr
 have hu1:=YX hr
 refine⟨_,(Xd (XJ (Zu (sc:=(Xk Y4)) (N0:=["rows"]) (tns:=["at","row"]) (caps:=[(0,"rows")]) rfl (FR rfl Z.b_enumerate (pv 0)) (V4 (by decide) (by decide)) (λcl C s H ex E=>⟨Ub K rfl rfl (Xu (Xq (i:=0) (show List.Nodup (["at","row","rows"]:List Str) by decide+kernel) rfl (Or.inl rfl)) (Xu (Xq (i:=1) (show List.Nodup (["at","row","rows"]:List Str) by decide+kernel) rfl (Or.inl rfl)) Y1)),ZG,(Xl Zk (pv 1) (Yf g_unit hr (by decide) (Xb (Yp (XU K rfl) rfl Z.b_len PySem.boot_len (Xb (pv 2) Xg)) (Xb (pv 0) Xg))))⟩)))
  Xj),?_⟩
 refine Y8 (S:=(SC.add SC.nil K (rV (rV Xa)) v_0 a_0)) (σ:=[some v_0]) 0 ?_ (SC.i SC.t h_0) hm q rfl
 unfold Ym
 exact(XY (ZK (λ_=>tg2 0 1) (Kk (Xi (r:=(rV (rV Xa))) 0 rfl (λ_ s=>s.r))) (λC2 a3 v4=>(Zt (EvS.ls (Xi (r:=(rV Xa)) 1 rfl (λ_ s=>s.r))) (Ev.ls (YF (Qb (Xc (r:=(rV (rV Xa))) 2 rfl (λ_ s=>s.l.l.r))) (Xc (r:=Xa) 0 rfl (λ_ s=>s.l.r))))))))
theorem YW:FnScope ["free","tied","count","prime","colours","arc","row"] ["free","tied","count","prime"] (Xk ZJ):=⟨rfl,rfl,rfl,by decide+kernel,rfl,by decide+kernel,by decide+kernel⟩
theorem Vm (D:Def K mg "colouring_of" ZJ ["free","tied","count","prime"])(g_unit:Fn P w K mg base 1 "unit" ["count","at"] (sp2 Xa Xa (oL (oF Xa)) JD K))(Z:Blt mg):Fn P w K mg base 2 "colouring_of" ["free","tied","count","prime"] (sp4 Xa (rDf (rV Xa)) Xa Xa (oL (oF Xa)) Yk K):=by
 refine YY D YW (λvs H Q E h=>?_) (λf cdv A outer s H vs Q E hr h=>?_)
 ·obtain⟨v_0,v_1,v_2,v_3,a_0,a_1,a_2,a_3,b,rfl,_⟩:=h;rfl
 obtain⟨v_0,v_1,v_2,v_3,a_0,a_1,a_2,a_3,b,rfl,h_0,h_1,h_2,h_3,hm,q⟩:=h
 have hu:=hu8 hr
 have hu1:=YX hr
 refine⟨_,(Xd (Xp (i:=4) YW.nd rfl (Or.inl rfl) (Yf g_unit hr (by decide) (Xb (pv 2) (Xb (pv 0) Xg))))
  (Xd (Zw PassesOwn.never rfl (CZ (pv 1)) (QG rfl (Xu (Xq (i:=5) YW.nd rfl (Or.inl rfl)) (Xu (Xq (i:=6) YW.nd rfl (Or.inl rfl)) Y1)))
   (Xd (Vx (Xl XV (K0 J0 (XQ (Xo K rfl) (pv 6) (pv 0) (λ_ _=>rfl))) (pv 3)) (DI (pv 4) (pv 5) Qp))
   Xj))
  (Xd (XJ (pv 4))
  Xj))),?_⟩
 refine Y8 (S:=(SC.add (SC.add (SC.add (SC.add SC.nil K Xa v_0 a_0) K (rDf (rV Xa)) v_1 a_1) K Xa v_2 a_2) K Xa v_3 a_3)) (σ:=[some v_0,some v_1,some v_2,some v_3,none,none,none]) 1 ?_ (SC.i (SC.i (SC.i (SC.i SC.t h_0) h_1) h_2) h_3) hm q rfl
 unfold Yk
 exact(Ya (K:=K) (o:=(oL (oF Xa))) 4 0 (YF (Xc (r:=Xa) 2 rfl (λ_ s=>s.l.r)) (Xc (r:=Xa) 0 rfl (λ_ s=>s.l.l.l.r))) (Nat.le_of_ble_eq_true rfl) λa1 v2 C3=>(ZX (K:=K) (J:=({oo:=λx7=>[x7.2.2.2],ss:=λx7=>[some v_0,some v_1,some v_2,some v_3,some x7.2.2.1,x7.1,x7.2.1],sc:=λg8 x7=>(SC.addO (SC.add (SC.add (SC.add (SC.add SC.nil K Xa v_0 a_0) K (rDf (rV Xa)) v_1 a_1) K Xa v_2 a_2) K Xa v_3 a_3) K (oL (oF Xa)) x7.2.2.1 g8 x7.2.2.2)}:Jn ((List Int)) (Option V×Option V×V×List Xy))) (λ_=>tg2 5 6) ((none),(none),v2,C3) (a1) (KL (Xi (r:=(rDf (rV Xa))) 1 rfl (λ_ s=>s.l.l.l.r))) rfl rfl (λ_ s=>(SC.i (SC.i (SC.i (SC.i (SC.i SC.t s.l.l.l.l.r) s.l.l.l.r) s.l.l.r) s.l.r) s.r)) (λg9 x10 a11 v12=>(Um (K:=K) (o:=(oF Xa)) 4 0 rfl rfl (λ_ s=>s.l.l.r) (EvS.ev (EvB.sh (XE (QK (XG (Xc (r:=(rV Xa)) 6 rfl (λ_ s=>s.r)) (Xc (r:=Xa) 0 rfl (λ_ s=>s.l.l.l.l.l.l.r)))) (Xc (r:=Xa) 3 rfl (λ_ s=>s.l.l.l.r))))) (λ_=>(Xc (r:=Xa) 5 rfl (λ_ s=>s.l.r))) λa20 C21=>(XL (J:=_) ((some v12.1),(some v12.2),x10.2.2.1,C21) (a20) rfl rfl (λ_ s=>(SC.i (SC.i (SC.i (SC.i (SC.i SC.t s.l.l.l.l.l.l.l.r) s.l.l.l.l.l.l.r) s.l.l.l.l.l.r) s.l.l.l.l.r) s.r))))) λg22 x23=>(XY (YI (o:=(oL (oF Xa))) 4 0 rfl rfl (λ_ s=>s.r)))))
theorem ZO:FnScope ["drawing","prime","factor","count","rows","tied","frees","basis"] ["drawing","prime","factor"] (Xk Qy):=⟨rfl,rfl,rfl,by decide+kernel,rfl,by decide+kernel,by decide+kernel⟩
theorem Fh (D:Def K mg "solved" Qy ["drawing","prime","factor"])(g_arc_count:Fn P w K mg base 2 "arc_count" ["drawing"] (sp1 (rP2 (rV (rV Xa)) (rV (rP2 Xa Xa))) (oF Xa) Ys K))(g_led_rows:Fn P w K mg base 2 "led_rows" ["rows","count","prime"] (sp3 (rV (rV Xa)) Xa Xa (oL (oT2 (oF Xa) (oL (oF Xa)))) Ze K))(g_with_factors:Fn P w K mg base 2 "with_factors" ["rows"] (sp1 (rV (rV Xa)) (oL (oL (oF Xa))) Ym K))(g_colouring_of:Fn P w K mg base 2 "colouring_of" ["free","tied","count","prime"] (sp4 Xa (rDf (rV Xa)) Xa Xa (oL (oF Xa)) Yk K))(g_equations:Fn P w K mg base 6 "equations" ["drawing","prime","factor"] (sp3 (rP2 (rV (rV Xa)) (rV (rP2 Xa Xa))) Xa Xa (oL (oL (oF Xa))) Y0 K))(Z:Blt mg):Fn P w K mg base 7 "solved" ["drawing","prime","factor"] (sp3 (rP2 (rV (rV Xa)) (rV (rP2 Xa Xa))) Xa Xa (oT3 (oL (oF Xa)) (oL (oL (oF Xa))) (oL (oT2 (oF Xa) (oL (oF Xa))))) Qt K):=by
 refine YY D ZO (λvs H Q E h=>?_) (λf cdv A outer s H vs Q E hr h=>?_)
 ·obtain⟨v_0,v_1,v_2,a_0,a_1,a_2,b,rfl,_⟩:=h;rfl
 obtain⟨v_0,v_1,v_2,a_0,a_1,a_2,b,rfl,h_0,h_1,h_2,hm,q⟩:=h
 have hu:=hu8 hr
 have hu1:=YX hr
 refine⟨_,(Xd (Xp (i:=3) ZO.nd rfl (Or.inr rfl) (Yf g_arc_count hr (by decide) (Xb (pv 0) Xg)))
  (Xd (Xp (i:=4) ZO.nd rfl (Or.inl rfl) (Yf g_led_rows hr (by decide) (Xb (Yf g_with_factors hr (by decide) (Xb (Yf g_equations hr (by decide) (Xb (pv 0) (Xb (pv 1) (Xb (pv 2) Xg)))) Xg)) (Xb (pv 3) (Xb (pv 1) Xg)))))
  (Xd (Xp (i:=5) ZO.nd rfl (Or.inr rfl) (Ct (U7 K rfl rfl) rfl Z.b_dict PyProof.Rows.boot_dict (Xb (pv 4) Xg)))
  (Xd (J5 6 (Xk Qy) ["drawing","prime","factor","count","rows","tied","frees","basis"] ["arc"] [(5,"tied")] rfl ZO.nd rfl rfl (Zj rfl Z.b_range (Xb (pv 3) Xg)) (ZY (by decide)) (λcl C s H ex E=>⟨Xq (i:=0) (show List.Nodup (["arc","tied"]:List Str) by decide+kernel) rfl (Or.inl rfl),(KA (Lb (Ck hu1 (pv 0) (pv 1)))),(pv 0)⟩))
  (Xd (J5 7 (Xk Qy) ["drawing","prime","factor","count","rows","tied","frees","basis"] ["free"] [(5,"tied"),(3,"count"),(1,"prime")] rfl ZO.nd rfl rfl (X4 (K:=K) rfl (pv 6)) (ZY (by decide)) (λcl C s H ex E=>⟨Xq (i:=0) (show List.Nodup (["free","tied","count","prime"]:List Str) by decide+kernel) rfl (Or.inl rfl),ZG,(LI 1 (Yf g_colouring_of hr (by decide) (Xb (pv 0) (Xb (pv 1) (Xb (pv 2) (Xb (pv 3) Xg))))))⟩))
  (Xd (XJ (X1 (Xb (pv 6) (Xb (pv 7) (Xb (Zu (sc:=(Xk Qy)) (N0:=["drawing","prime","factor","count","rows","tied","frees","basis"]) (tns:=["arc","row"]) (caps:=[(3,"count")]) rfl (X4 (K:=K) rfl (pv 4)) (V4 (by decide) (by decide)) (λcl C s H ex E=>⟨Ub K rfl rfl (Xu (Xq (i:=0) (show List.Nodup (["arc","row","count"]:List Str) by decide+kernel) rfl (Or.inl rfl)) (Xu (Xq (i:=1) (show List.Nodup (["arc","row","count"]:List Str) by decide+kernel) rfl (Or.inl rfl)) Y1)),ZG,(X1 (Xb (pv 0) (Xb (Qo (QA K rfl) (pv 1) (Jy (pv 2)) Jd) Xg)))⟩)) Xg)))))
  Xj)))))),?_⟩
 refine Y8 (S:=(SC.add (SC.add (SC.add SC.nil K (rP2 (rV (rV Xa)) (rV (rP2 Xa Xa))) v_0 a_0) K Xa v_1 a_1) K Xa v_2 a_2)) (σ:=[some v_0,some v_1,some v_2,none,none,none,none,none]) 3 ?_ (SC.i (SC.i (SC.i SC.t h_0) h_1) h_2) hm q rfl
 unfold Qt
 exact(Xw (K:=K) (r:=Xa) 3 (EvB.sh (Ev.toB (YG (Xc (r:=(rP2 (rV (rV Xa)) (rV (rP2 Xa Xa)))) 0 rfl (λ_ s=>s.l.l.r))))) λa1 v2=>(Xw (K:=K) (r:=(rV (rP2 Xa (rV Xa)))) 4 (Ev.sh (Y3 (Ev.toB (YG (Ev.toB (Y3 (Xc (r:=(rP2 (rV (rV Xa)) (rV (rP2 Xa Xa)))) 0 rfl (λ_ s=>s.l.l.l.r)) (Xc (r:=Xa) 1 rfl (λ_ s=>s.l.l.r)) (Xc (r:=Xa) 2 rfl (λ_ s=>s.l.r)))))) (Xc (r:=Xa) 3 rfl (λ_ s=>s.r)) (Xc (r:=Xa) 1 rfl (λ_ s=>s.l.l.r)))) λa5 v6=>(Ya (K:=K) (o:=(oD (rV Xa))) 5 2 (By (EvS.ls (Xi (r:=(rV (rP2 Xa (rV Xa)))) 4 rfl (λ_ s=>s.r)))) (Nat.le_of_ble_eq_true rfl) λa17 v18 C19=>(Ya (K:=K) (o:=(oL (oF Xa))) 6 0 (Ug (λ_=>tg1 0) (YJ (Xc (r:=Xa) 3 rfl (λ_ s=>s.l.l.r))) (λC25 a26 v27=>(GZ (K:=K) (BE (Xc (r:=Xa) 0 rfl (λ_ s=>s.r)) (Vu (o:=(oD (rV Xa))) 1 3 rfl rfl (λ_ s=>s.l.r))))) (λC25 a26 v27=>(EvS.ev (Xi (r:=Xa) 0 rfl (λ_ s=>s.r))))) (Nat.le_of_ble_eq_true rfl) λa21 v22 C23=>(Ya (K:=K) (o:=(oL (oL (oF Xa)))) 7 1 (K6 (K:=K) (o1:=(oL (oF Xa))) 0 rfl (λ_ s=>s.r) (ZK (λ_=>tg1 0) (XS (Xi (r:=(rV Xa)) 6 rfl (λ_ s=>s.r))) (λC34 a35 v36=>(BD (K:=K) (r:=(rV Xa)) 1 3 rfl rfl (λ_ s=>s.l.l.l.r) (λ_=>VX) (UK (Xc (r:=Xa) 0 rfl (λ_ s=>s.l.r)) (Xc (r:=(rDf (rV Xa))) 1 rfl (λ_ s=>s.r)) (Xc (r:=Xa) 2 rfl (λ_ s=>s.l.l.l.l.l.l.r)) (Xc (r:=Xa) 3 rfl (λ_ s=>s.l.l.l.l.l.l.l.l.r))))))) (Nat.le_of_ble_eq_true rfl) λa31 v32 C33=>(XY (Qz (YI (o:=(oL (oF Xa))) 6 0 rfl rfl (λ_ s=>s.l.r)) (λ_=>(YI (o:=(oL (oL (oF Xa)))) 7 2 rfl rfl (λ_ s=>s.r))) λ_ _=>(ZK (λ_=>tg2 0 1) (XS (Xi (r:=(rV (rP2 Xa (rV Xa)))) 4 rfl (λ_ s=>s.l.l.l.r))) (λC44 a45 v46=>(QR (EvS.ev (Xi (r:=Xa) 0 rfl (λ_ s=>s.l.r))) λ_=>(Q6 (EvS.ls (Xi (r:=(rV Xa)) 1 rfl (λ_ s=>s.r))) (Qw (K:=K) (Xc (r:=Xa) 2 rfl (λ_ s=>s.l.l.l.l.l.l.r))) Qu)))))))))))
theorem YE:FnScope ["drawing","prime","factor","number","free"] ["drawing","prime","factor"] (Xk Zp):=⟨rfl,rfl,rfl,by decide+kernel,rfl,by decide+kernel,by decide+kernel⟩
theorem JH (D:Def K mg "straight_many" Zp ["drawing","prime","factor"])(g_solved:Fn P w K mg base 7 "solved" ["drawing","prime","factor"] (sp3 (rP2 (rV (rV Xa)) (rV (rP2 Xa Xa))) Xa Xa (oT3 (oL (oF Xa)) (oL (oL (oF Xa))) (oL (oT2 (oF Xa) (oL (oF Xa))))) Qt K))(Z:Blt mg):Fn P w K mg base 8 "straight_many" ["drawing","prime","factor"] (sp3 (rP2 (rV (rV Xa)) (rV (rP2 Xa Xa))) Xa Xa (oF Xa) XX K):=by
 refine YY D YE (λvs H Q E h=>?_) (λf cdv A outer s H vs Q E hr h=>?_)
 ·obtain⟨v_0,v_1,v_2,a_0,a_1,a_2,b,rfl,_⟩:=h;rfl
 obtain⟨v_0,v_1,v_2,a_0,a_1,a_2,b,rfl,h_0,h_1,h_2,hm,q⟩:=h
 have hu:=hu8 hr
 have hu1:=YX hr
 refine⟨_,(Xd (Xp (i:=3) YE.nd rfl (Or.inl rfl) Xf)
  (Xd (Zw PassesOwn.never rfl (X4 (K:=K) rfl (XQ (Zh K rfl) (Yf g_solved hr (by decide) (Xb (pv 0) (Xb (pv 1) (Xb (pv 2) Xg)))) Xf (λ_ _=>rfl))) (Xq (i:=4) YE.nd rfl (Or.inl rfl))
   (Xd (Kw (i:=3) YE.nd rfl (Or.inl rfl) (pv 1) IL)
   Xj))
  (Xd (XJ (pv 3))
  Xj))),?_⟩
 refine Y8 (S:=(SC.add (SC.add (SC.add SC.nil K (rP2 (rV (rV Xa)) (rV (rP2 Xa Xa))) v_0 a_0) K Xa v_1 a_1) K Xa v_2 a_2)) (σ:=[some v_0,some v_1,some v_2,none,none]) 0 ?_ (SC.i (SC.i (SC.i SC.t h_0) h_1) h_2) hm q rfl
 unfold XX
 exact(Xw (K:=K) (r:=Xa) 3 (EvB.sh (Xe 1)) λa1 v2=>(ZX (K:=K) (J:=({oo:=λx8=>[],ss:=λx8=>[some v_0,some v_1,some v_2,some x8.2,x8.1],sc:=λg9 x8=>(SC.add (SC.add (SC.add (SC.add SC.nil K (rP2 (rV (rV Xa)) (rV (rP2 Xa Xa))) v_0 a_0) K Xa v_1 a_1) K Xa v_2 a_2) K Xa x8.2 g9)}:Jn (Int) (Option V×V))) (λ_=>tg1 4) ((none),v2) (a1) (XS (EF (Ev.sh (Y3 (Xc (r:=(rP2 (rV (rV Xa)) (rV (rP2 Xa Xa)))) 0 rfl (λ_ s=>s.l.l.l.r)) (Xc (r:=Xa) 1 rfl (λ_ s=>s.l.l.r)) (Xc (r:=Xa) 2 rfl (λ_ s=>s.l.r)))))) rfl rfl (λ_ s=>(SC.i (SC.i (SC.i (SC.i SC.t s.l.l.l.r) s.l.l.r) s.l.r) s.r)) (λg10 x11 a12 v13=>(Hj (K:=K) 3 rfl (λ_ s=>s.l.r) (Xc (r:=Xa) 1 rfl (λ_ s=>s.l.l.l.r)) λa16 v15=>(XL (J:=_) ((some v13),v15) (a16) rfl rfl (λ_ s=>(SC.i (SC.i (SC.i (SC.i SC.t s.l.l.l.l.l.r) s.l.l.l.l.r) s.l.l.l.r) s.r))))) λg17 x18=>(XY (EvS.ev (Xi (r:=Xa) 3 rfl (λ_ s=>s.r))))))
theorem UD:FnScope ["_law_script","_law_place","_law_seed","_law_cell_here"] ["_law_script","_law_place"] (Xk Cr):=⟨rfl,rfl,rfl,by decide+kernel,rfl,by decide+kernel,by decide+kernel⟩
theorem EH (D:Def K mg "_law_cell" Cr ["_law_script","_law_place"])(Z:Blt mg):Fn P w K mg base 1 "_law_cell" ["_law_script","_law_place"] (sp2 (rL Xa) Xa (oF Xa) Vv K):=by
 refine YY D UD (λvs H Q E h=>?_) (λf cdv A outer s H vs Q E hr h=>?_)
 ·obtain⟨v_0,v_1,a_0,a_1,b,rfl,_⟩:=h;rfl
 obtain⟨v_0,v_1,a_0,a_1,b,rfl,h_0,h_1,hm,q⟩:=h
 have hu:=hu8 hr
 have hu1:=YX hr
 refine⟨_,(Xd (ZI (XH Fe (pv 1) (Yp (XU K rfl) rfl Z.b_len PySem.boot_len (Xb (pv 0) Xg)) (X2 _))
   (Xd (XJ (XQ (Xo K rfl) (pv 0) (pv 1) (λ_ _=>rfl)))
   Xj)
   Xj)
  (Xd (Xp (i:=2) UD.nd rfl (Or.inl rfl) Xf)
  (Xd (Zw PassesOwn.never rfl (X4 (K:=K) rfl (Qo (QA K rfl) (pv 0) Jd (Jy Xf))) (Xq (i:=3) UD.nd rfl (Or.inl rfl))
   (Xd (Xp (i:=2) UD.nd rfl (Or.inl rfl) (Xl XV (Xl X9 (Xl X9 (Xl Yq (pv 2) Xf) (Xl XV (pv 3) Xf)) Xf) Xf))
   Xj))
  (Xd (XJ (Xl XV (Xl X9 (pv 2) (Xl Yq Xf (pv 1))) Xf))
  Xj)))),?_⟩
 refine Y8 (S:=(SC.add (SC.add SC.nil K (rL Xa) v_0 a_0) K Xa v_1 a_1)) (σ:=[some v_0,some v_1,none,none]) 0 ?_ (SC.i (SC.i SC.t h_0) h_1) hm q rfl
 unfold Vv
 exact(Gj (XA (K:=K) (VZ (Xc (r:=Xa) 1 rfl (λ_ s=>s.r)) (Bl (Xc (r:=(rL Xa)) 0 rfl (λ_ s=>s.l.r))))) (XY (EvS.ev (EvB.sh (ED (Xc (r:=(rL Xa)) 0 rfl (λ_ s=>s.l.r)) (Xc (r:=Xa) 1 rfl (λ_ s=>s.r)))))) (Xw (K:=K) (r:=Xa) 2 (EvB.sh (Xe 5)) λa7 v8=>(ZX (K:=K) (J:=({oo:=λx13=>[],ss:=λx13=>[some v_0,some v_1,some x13.2,x13.1],sc:=λg14 x13=>(SC.add (SC.add (SC.add SC.nil K (rL Xa) v_0 a_0) K Xa v_1 a_1) K Xa x13.2 g14)}:Jn (Int) (Option V×V))) (λ_=>tg1 3) ((none),v8) (a7) (XS (Ev.sh (FU (Xc (r:=(rL Xa)) 0 rfl (λ_ s=>s.l.l.r)) Qu (Qw (K:=K) (Xe 63))))) rfl rfl (λ_ s=>(SC.i (SC.i (SC.i SC.t s.l.l.r) s.l.r) s.r)) (λg15 x16 a17 v18=>(Xw (K:=K) (r:=Xa) 2 (EvB.sh (XE (XM (XM (XT (Xc (r:=Xa) 2 rfl (λ_ s=>s.l.r)) (Xe 48271)) (XE (Xc (r:=Xa) 3 rfl (λ_ s=>s.r)) (Xe 1000003))) (Xe 1)) (Xe 2147483647))) λa19 v20=>(XL (J:=_) ((some v18),v20) (a19) rfl rfl (λ_ s=>(SC.i (SC.i (SC.i SC.t s.l.l.l.l.r) s.l.l.l.r) s.r))))) λg31 x32=>(XY (EvS.ev (EvB.sh (XE (XM (Xc (r:=Xa) 2 rfl (λ_ s=>s.r)) (XT (Xe 7919) (Xc (r:=Xa) 1 rfl (λ_ s=>s.l.r)))) (Xe 1000003))))))))
theorem FD:FnScope ["_law_cell_here","_law_k","_law_one","_law_two"] ["_law_cell_here","_law_k"] (Xk Hx):=⟨rfl,rfl,rfl,by decide+kernel,rfl,by decide+kernel,by decide+kernel⟩
theorem Iq (D:Def K mg "_law_mix" Hx ["_law_cell_here","_law_k"])(Z:Blt mg):Fn P w K mg base 1 "_law_mix" ["_law_cell_here","_law_k"] (sp2 Xa Xa (oF Xa) Gb K):=by
 refine YY D FD (λvs H Q E h=>?_) (λf cdv A outer s H vs Q E hr h=>?_)
 ·obtain⟨v_0,v_1,a_0,a_1,b,rfl,_⟩:=h;rfl
 obtain⟨v_0,v_1,a_0,a_1,b,rfl,h_0,h_1,hm,q⟩:=h
 have hu:=hu8 hr
 have hu1:=YX hr
 refine⟨_,(Xd (Xp (i:=2) FD.nd rfl (Or.inl rfl) (Xl XV (Xl GD (Xl X9 (Xl X9 (Xl XV (pv 0) Xf) (Xl Yq Xf (pv 1))) Xf) Xf) Xf))
  (Xd (Xp (i:=3) FD.nd rfl (Or.inl rfl) (Xl XV (Xl X9 (Xl X9 (Xl Yq (pv 2) Xf) (Xl Yq (Xl Yq Xf (pv 1)) (pv 1))) Xf) Xf))
  (Xd (XJ (Xl Q1 (pv 3) Xf))
  Xj))),?_⟩
 refine Y8 (S:=(SC.add (SC.add SC.nil K Xa v_0 a_0) K Xa v_1 a_1)) (σ:=[some v_0,some v_1,none,none]) 0 ?_ (SC.i (SC.i SC.t h_0) h_1) hm q rfl
 unfold Gb
 exact(Xw (K:=K) (r:=Xa) 2 (EvB.sh (XE (V9 (XM (XM (XE (Xc (r:=Xa) 0 rfl (λ_ s=>s.l.r)) (Xe 2147483629)) (XT (Xe 1013) (Xc (r:=Xa) 1 rfl (λ_ s=>s.r)))) (Xe 7919)) (Xe 3)) (Xe 2147483647))) λa1 v2=>(Xw (K:=K) (r:=Xa) 3 (EvB.sh (XE (XM (XM (XT (Xc (r:=Xa) 2 rfl (λ_ s=>s.r)) (Xe 40699)) (XT (XT (Xe 3793) (Xc (r:=Xa) 1 rfl (λ_ s=>s.l.r))) (Xc (r:=Xa) 1 rfl (λ_ s=>s.l.r)))) (Xe 11)) (Xe 2147483399))) λa15 v16=>(XY (EvS.ev (EvB.sh (Vc (Xc (r:=Xa) 3 rfl (λ_ s=>s.r)) (Xe 101)))))))
theorem Vz:FnScope ["_law_script","_law_place","_law_sizes","_law_cell_here","_law_left","_law_some","_law_k","_law_other"] ["_law_script","_law_place","_law_sizes"] (Xk EY):=⟨rfl,rfl,rfl,by decide+kernel,rfl,by decide+kernel,by decide+kernel⟩
theorem IP (D:Def K mg "_law_row" EY ["_law_script","_law_place","_law_sizes"])(g_cell:Fn P w K mg base 1 "_law_cell" ["_law_script","_law_place"] (sp2 (rL Xa) Xa (oF Xa) Vv K))(g_mix:Fn P w K mg base 1 "_law_mix" ["_law_cell_here","_law_k"] (sp2 Xa Xa (oF Xa) Gb K))(Z:Blt mg):Fn P w K mg base 2 "_law_row" ["_law_script","_law_place","_law_sizes"] (sp3 (rL Xa) Xa (rV Xa) (oL (oF Xa)) K1 K):=by
 refine YY D Vz (λvs H Q E h=>?_) (λf cdv A outer s H vs Q E hr h=>?_)
 ·obtain⟨v_0,v_1,v_2,a_0,a_1,a_2,b,rfl,_⟩:=h;rfl
 obtain⟨v_0,v_1,v_2,a_0,a_1,a_2,b,rfl,h_0,h_1,h_2,hm,q⟩:=h
 have hu:=hu8 hr
 have hu1:=YX hr
 refine⟨_,(Xd (Xp (i:=3) Vz.nd rfl (Or.inl rfl) (Yf g_cell hr (by decide) (Xb (pv 0) (Xb (pv 1) Xg))))
  (Xd (Xp (i:=4) Vz.nd rfl (Or.inl rfl) (pv 3))
  (Xd (Xp (i:=5) Vz.nd rfl (Or.inl rfl) (Yg Xg))
  (Xd (Zw PassesOwn.never rfl (Zj rfl Z.b_range (Xb (Yp (XU K rfl) rfl Z.b_len PySem.boot_len (Xb (pv 2) Xg)) Xg)) (Xq (i:=6) Vz.nd rfl (Or.inl rfl))
   (Xd (ZI (XH Fe (pv 3) (Xl GD Xf Xf) (X2 _))
    (Xd (YZ (Jq PySem.F.plainAttrs_list PySem.F.slot_list_append PySem.F.type_list_append Yh (pv 5) (Xb (Xl XV (Yf g_mix hr (by decide) (Xb (pv 3) (Xb (pv 6) Xg))) (XQ (Xo K rfl) (pv 2) (pv 6) (λ_ _=>rfl))) Xg)))
    Xj)
    (Xd (ZI (XH G2 (pv 4) Xf (X2 _))
     (Xd (YZ (Jq PySem.F.plainAttrs_list PySem.F.slot_list_append PySem.F.type_list_append Yh (pv 5) (Xb (Xl XV (pv 4) (XQ (Xo K rfl) (pv 2) (pv 6) (λ_ _=>rfl))) Xg)))
     (Xd (Xp (i:=4) Vz.nd rfl (Or.inl rfl) (Xl Q1 (pv 4) (XQ (Xo K rfl) (pv 2) (pv 6) (λ_ _=>rfl))))
     Xj))
     (Xd (Xp (i:=7) Vz.nd rfl (Or.inl rfl) (Yf g_cell hr (by decide) (Xb (pv 0) (Xb (Xl XV (Xl X9 (Xl X9 (pv 1) Xf) (pv 6)) Xf) Xg))))
     (Xd (YZ (Jq PySem.F.plainAttrs_list PySem.F.slot_list_append PySem.F.type_list_append Yh (pv 5) (Xb (Xl XV (Yf g_mix hr (by decide) (Xb (pv 7) (Xb (pv 6) Xg))) (XQ (Xo K rfl) (pv 2) (pv 6) (λ_ _=>rfl))) Xg)))
     Xj)))
    Xj))
   Xj))
  (Xd (XJ (pv 5))
  Xj))))),?_⟩
 refine Y8 (S:=(SC.add (SC.add (SC.add SC.nil K (rL Xa) v_0 a_0) K Xa v_1 a_1) K (rV Xa) v_2 a_2)) (σ:=[some v_0,some v_1,some v_2,none,none,none,none,none]) 1 ?_ (SC.i (SC.i (SC.i SC.t h_0) h_1) h_2) hm q rfl
 unfold K1
 exact(Xw (K:=K) (r:=Xa) 3 (EvB.sh (Ev.toB (YF (Xc (r:=(rL Xa)) 0 rfl (λ_ s=>s.l.l.r)) (Xc (r:=Xa) 1 rfl (λ_ s=>s.l.r))))) λa1 v2=>(Xw (K:=K) (r:=Xa) 4 (Xi (r:=Xa) 3 rfl (λ_ s=>s.r)) λa6 v7=>(Ya (K:=K) (o:=(oL (oF Xa))) 5 0 (V3 (o:=(oF Xa))) (Nat.le_of_ble_eq_true rfl) λa8 v9 C10=>(ZX (K:=K) (J:=({oo:=λx13=>[x13.2.2.2.2],ss:=λx13=>[some v_0,some v_1,some v_2,some v2,some x13.2.2.1,some x13.2.1,x13.1,x13.2.2.2.1],sc:=λg14 x13=>(SC.add (SC.addO (SC.add (SC.add (SC.add (SC.add SC.nil K (rL Xa) v_0 a_0) K Xa v_1 a_1) K (rV Xa) v_2 a_2) K Xa v2 a1) K (oL (oF Xa)) x13.2.1 g14.1 x13.2.2.2.2) K Xa x13.2.2.1 g14.2)}:Jn ((List Int)×Int) (Option V×V×V×Option V×List Xy))) (λ_=>tg1 6) ((none),v9,v7,(none),C10) (a8,a6) (YJ (Qb (Xc (r:=(rV Xa)) 2 rfl (λ_ s=>s.l.l.l.r)))) rfl rfl (λ_ s=>(SC.i (SC.i (SC.i (SC.i (SC.i (SC.i SC.t s.l.l.l.l.l.r) s.l.l.l.l.r) s.l.l.l.r) s.l.l.r) s.r) s.l.r)) (λg15 x16 a17 v18=>(Z5 (J:=({oo:=λx24=>[x24.2.2.2],ss:=λx24=>[some v_0,some v_1,some v_2,some v2,some x24.2.1,some x24.1,some v18,x24.2.2.1],sc:=λg25 x24=>(SC.add (SC.addO (SC.add (SC.add (SC.add (SC.add (SC.add SC.nil K (rL Xa) v_0 a_0) K Xa v_1 a_1) K (rV Xa) v_2 a_2) K Xa v2 a1) K Xa v18 a17) K (oL (oF Xa)) x24.1 g25.1 x24.2.2.2) K Xa x24.2.1 g25.2)}:Jn ((List Int)×Int) (V×V×Option V×List Xy))) (QZ (Fd:=FNd ({oo:=λx24=>[x24.2.2.2],ss:=λx24=>[some v_0,some v_1,some v_2,some v2,some x24.2.1,some x24.1,some v18,x24.2.2.1],sc:=λg25 x24=>(SC.add (SC.addO (SC.add (SC.add (SC.add (SC.add (SC.add SC.nil K (rL Xa) v_0 a_0) K Xa v_1 a_1) K (rV Xa) v_2 a_2) K Xa v2 a1) K Xa v18 a17) K (oL (oF Xa)) x24.1 g25.1 x24.2.2.2) K Xa x24.2.1 g25.2)}:Jn ((List Int)×Int) (V×V×Option V×List Xy))) (XA (K:=K) (VZ (Xc (r:=Xa) 3 rfl (λ_ s=>s.l.l.l.r)) (V9 (Xe 10) (Xe 18)))) (Qk (K:=K) (o:=(oF Xa)) (f:=λa35=>(Rs.ok (a35,g15.2))) 5 0 rfl rfl rfl (λ_ s=>s.l.l.r) (EvS.ev (EvB.sh (XE (Ev.toB (YF (Xc (r:=Xa) 3 rfl (λ_ s=>s.l.l.l.r)) (Xc (r:=Xa) 6 rfl (λ_ s=>s.r)))) (XG (Xc (r:=(rV Xa)) 2 rfl (λ_ s=>s.l.l.l.l.r)) (Xc (r:=Xa) 6 rfl (λ_ s=>s.r)))))) λa33 C34=>(XL (J:=_) (x16.2.1,x16.2.2.1,(x16.2.2.2.1),C34) ((g15.1++[a33]),g15.2) rfl rfl (λ_ s=>(SC.i (SC.i (SC.i (SC.i (SC.i (SC.i (SC.i SC.t s.l.l.l.l.l.l.l.r) s.l.l.l.l.l.l.r) s.l.l.l.l.l.r) s.l.l.l.l.r) s.l.r) s.r) s.l.l.r)))) (Z5 (J:=({oo:=λx39=>[x39.2.2.2],ss:=λx39=>[some v_0,some v_1,some v_2,some v2,some x39.1,some x39.2.2.1,some v18,x39.2.1],sc:=λg40 x39=>(SC.addO (SC.add (SC.add (SC.add (SC.add (SC.add (SC.add SC.nil K (rL Xa) v_0 a_0) K Xa v_1 a_1) K (rV Xa) v_2 a_2) K Xa v2 a1) K Xa v18 a17) K Xa x39.1 g40.1) K (oL (oF Xa)) x39.2.2.1 g40.2 x39.2.2.2)}:Jn (Int×(List Int)) (V×Option V×V×List Xy))) (QZ (Fd:=FNd ({oo:=λx39=>[x39.2.2.2],ss:=λx39=>[some v_0,some v_1,some v_2,some v2,some x39.1,some x39.2.2.1,some v18,x39.2.1],sc:=λg40 x39=>(SC.addO (SC.add (SC.add (SC.add (SC.add (SC.add (SC.add SC.nil K (rL Xa) v_0 a_0) K Xa v_1 a_1) K (rV Xa) v_2 a_2) K Xa v2 a1) K Xa v18 a17) K Xa x39.1 g40.1) K (oL (oF Xa)) x39.2.2.1 g40.2 x39.2.2.2)}:Jn (Int×(List Int)) (V×Option V×V×List Xy))) (XA (K:=K) (VT (Xc (r:=Xa) 4 rfl (λ_ s=>s.l.r)) (Xe 0))) (Qk (K:=K) (o:=(oF Xa)) (f:=λa47=>(Rs.bind (Rs.bind (Rs.ok g15.2) λx52=>(Rs.bind (Rs.bind (Rs.ok a_2) λx50=>(Rs.bind (Rs.ok a17) λx51=>(atR x50 x51))) λx53=>(CT x52 x53))) λa48=>(Rs.ok (a48,a47)))) 5 0 rfl rfl rfl (λ_ s=>s.l.l.r) (EvS.ev (EvB.sh (XE (Xc (r:=Xa) 4 rfl (λ_ s=>s.l.r)) (XG (Xc (r:=(rV Xa)) 2 rfl (λ_ s=>s.l.l.l.l.r)) (Xc (r:=Xa) 6 rfl (λ_ s=>s.r)))))) λa45 C46=>(Xw (K:=K) (r:=Xa) 4 (EvB.sh (Vc (Xc (r:=Xa) 4 rfl (λ_ s=>s.l.l.r)) (XG (Xc (r:=(rV Xa)) 2 rfl (λ_ s=>s.l.l.l.l.l.r)) (Xc (r:=Xa) 6 rfl (λ_ s=>s.l.r))))) λa48 v49=>(XL (J:=_) (v49,(x16.2.2.2.1),x16.2.1,C46) (a48,(g15.1++[a45])) rfl rfl (λ_ s=>(SC.i (SC.i (SC.i (SC.i (SC.i (SC.i (SC.i SC.t s.l.l.l.l.l.l.l.l.r) s.l.l.l.l.l.l.l.r) s.l.l.l.l.l.l.r) s.l.l.l.l.l.r) s.l.l.r) s.r) s.l.r))))) (Xw (K:=K) (r:=Xa) 7 (EvB.sh (Ev.toB (YF (Xc (r:=(rL Xa)) 0 rfl (λ_ s=>s.l.l.l.l.l.l.r)) (XE (XM (XM (Xc (r:=Xa) 1 rfl (λ_ s=>s.l.l.l.l.l.r)) (Xe 1)) (Xc (r:=Xa) 6 rfl (λ_ s=>s.r))) (Xe 63))))) λa54 v55=>(Qk (K:=K) (o:=(oF Xa)) (f:=λa74=>(Rs.ok (g15.2,a74))) 5 0 rfl rfl rfl (λ_ s=>s.l.l.l.r) (EvS.ev (EvB.sh (XE (Ev.toB (YF (Xc (r:=Xa) 7 rfl (λ_ s=>s.r)) (Xc (r:=Xa) 6 rfl (λ_ s=>s.l.r)))) (XG (Xc (r:=(rV Xa)) 2 rfl (λ_ s=>s.l.l.l.l.l.r)) (Xc (r:=Xa) 6 rfl (λ_ s=>s.l.r)))))) λa72 C73=>(XL (J:=_) (x16.2.2.1,(some v55),x16.2.1,C73) (g15.2,(g15.1++[a72])) rfl rfl (λ_ s=>(SC.i (SC.i (SC.i (SC.i (SC.i (SC.i (SC.i SC.t s.l.l.l.l.l.l.l.l.r) s.l.l.l.l.l.l.l.r) s.l.l.l.l.l.l.r) s.l.l.l.l.l.r) s.l.l.r) s.l.l.l.r) s.r)))))) λg76 x75=>(XL (J:=_) (x75.2.2.1,x75.1,(x75.2.1),x75.2.2.2) (g76.2,g76.1) rfl rfl (λ_ s=>(SC.i (SC.i (SC.i (SC.i (SC.i (SC.i (SC.i SC.t s.l.l.l.l.l.l.r) s.l.l.l.l.l.r) s.l.l.l.l.r) s.l.l.l.r) s.l.l.r) s.r) s.l.r))))) λg78 x77=>(XL (J:=_) ((some v18),x77.1,x77.2.1,(x77.2.2.1),x77.2.2.2) (g78.1,g78.2) rfl rfl (λ_ s=>(SC.i (SC.i (SC.i (SC.i (SC.i (SC.i SC.t s.l.l.l.l.l.l.r) s.l.l.l.l.l.r) s.l.l.l.l.r) s.l.l.l.r) s.l.r) s.r))))) λg79 x80=>(XY (YI (o:=(oL (oF Xa))) 5 0 rfl rfl (λ_ s=>s.l.r)))))))
theorem K2:FnScope ["_law_one"] ["_law_one"] (Xk Jt):=⟨rfl,rfl,rfl,by decide+kernel,rfl,by decide+kernel,by decide+kernel⟩
theorem KK (D:Def K mg "_law_is_whole" Jt ["_law_one"])(Z:Blt mg):Fn P w K mg base 1 "_law_is_whole" ["_law_one"] (sp1 Xa (oF XZ) ZR K):=by
 refine YY D K2 (λvs H Q E h=>?_) (λf cdv A outer s H vs Q E hr h=>?_)
 ·obtain⟨v_0,a_0,b,rfl,_⟩:=h;rfl
 obtain⟨v_0,a_0,b,rfl,h_0,hm,q⟩:=h
 have hu:=hu8 hr
 have hu1:=YX hr
 refine⟨_,(Xd (XJ (HY (Yp J3 rfl Z.b_isinstance PyProof.Rows.boot_isinstance (Xb (pv 0) (Xb (Fm (v:=V.ty "int") rfl Z.b_int PyProof.Rows.boot_int rfl) Xg))) (La (Li (Yp J3 rfl Z.b_isinstance PyProof.Rows.boot_isinstance (Xb (pv 0) (Xb (Fm (v:=V.ty "bool") rfl Z.b_bool PyProof.Rows.boot_bool rfl) Xg)))))))
  Xj),?_⟩
 refine Y8 (S:=(SC.add SC.nil K Xa v_0 a_0)) (σ:=[some v_0]) 0 ?_ (SC.i SC.t h_0) hm q rfl
 unfold ZR
 exact(XY (EvS.ev (EvB.sh (BI (VV "int" true (Ba K "int") (Xc (r:=Xa) 0 rfl (λ_ s=>s.r))) (Be (VV "bool" false (UX K) (Xc (r:=Xa) 0 rfl (λ_ s=>s.r))))))))
theorem JY:FnScope ["_law_some","_law_primes","_law_prime_here","_law_factor"] ["_law_some"] (Xk KO):=⟨rfl,rfl,rfl,by decide+kernel,rfl,by decide+kernel,by decide+kernel⟩
theorem BF (D:Def K mg "_law_prime" KO ["_law_some"])(Z:Blt mg):Fn P w K mg base 1 "_law_prime" ["_law_some"] (sp1 (rV Xa) (oF (rP2 Xa Xa)) Jm K):=by
  refine YY D JY (λvs H Q E h=>?_) (λf cdv A outer s H vs Q E hr h=>?_)
  . obtain⟨v_0,a_0,b,rfl,_⟩:=h;rfl
  obtain⟨v_0,a_0,b,rfl,h_0,hm,q⟩:=h
  have hu:=hu8 hr
  have hu1:=YX hr
  apply Exists.intro
  apply And.intro
  case left=>
   refine' Xd ?zq1 ?zq2
   case zq1=>
    refine' Xp (i:=1) ?zq3 ?zq4 ?zq5 ?zq6
    case zq3=>exact JY.nd
    case zq4=>exact rfl
    case zq5=>exact(Or.inl rfl)
    case zq6=>
     refine' Yg ?zq7
     case zq7=>
      refine' Xb ?zq8 ?zq9
      case zq8=>exact Xf
      case zq9=>
       refine' Xb ?zq10 ?zq11
       case zq10=>exact Xf
       case zq11=>
        refine' Xb ?zq12 ?zq13
        case zq12=>exact Xf
        case zq13=>
         refine' Xb ?zq14 ?zq15
         case zq14=>exact Xf
         case zq15=>
          refine' Xb ?zq16 ?zq17
          case zq16=>exact Xf
          case zq17=>
           refine' Xb ?zq18 ?zq19
           case zq18=>exact Xf
           case zq19=>
            refine' Xb ?zq20 ?zq21
            case zq20=>exact Xf
            case zq21=>
             refine' Xb ?zq22 ?zq23
             case zq22=>exact Xf
             case zq23=>
              refine' Xb ?zq24 ?zq25
              case zq24=>exact Xf
              case zq25=>
               refine' Xb ?zq26 ?zq27
               case zq26=>exact Xf
               case zq27=>
                exact Xg
   case zq2=>
    exact(Xd (Xp (i:=2) JY.nd rfl (Or.inl rfl) (XQ (Xo K rfl) (pv 1) (XQ (Xo K rfl) (pv 0) Xf (λ_ _=>rfl)) (λ_ _=>rfl)))
     (Xd (Xp (i:=3) JY.nd rfl (Or.inl rfl) (Xl X9 Xf (Xl XV (XQ (Xo K rfl) (pv 0) Xf (λ_ _=>rfl)) (Yp (Kt rfl) rfl Z.b_max PyProof.Rows.boot_max (Xb Xf (Xb (Xl Zz (pv 2) Xf) Xg))))))
     (Xd (XJ (X1 (Xb (pv 2) (Xb (Xl X9 (pv 3) (Xl Yq (pv 2) (XQ (Xo K rfl) (Yg (Xb Xf (Xb Xf (Xb (K0 J0 Xf) (Xb Xf (Xb (Xl GD Xf Xf) Xg)))))) (XQ (Xo K rfl) (pv 0) Xf (λ_ _=>rfl)) (λ_ _=>rfl)))) Xg))))
     Xj)))
  refine Y8 (S:=(SC.add SC.nil K (rV Xa) v_0 a_0)) (σ:=[some v_0,none,none,none]) 0 ?_ (SC.i SC.t h_0) hm q rfl
  unfold Jm
  exact(Xw (K:=K) (r:=(rV Xa)) 1 (Ev.sh (Zi (Xm (EvB.sh (Xe 2)) (Xm (EvB.sh (Xe 3)) (Xm (EvB.sh (Xe 5)) (Xm (EvB.sh (Xe 7)) (Xm (EvB.sh (Xe 11)) (Xm (EvB.sh (Xe 13)) (Xm (EvB.sh (Xe 23)) (Xm (EvB.sh (Xe 97)) (Xm (EvB.sh (Xe 65537)) (Xm (EvB.sh (Xe 99991)) YL)))))))))))) λa1 v2=>(Xw (K:=K) (r:=Xa) 2 (EvB.sh (XG (Xc (r:=(rV Xa)) 1 rfl (λ_ s=>s.r)) (XG (Xc (r:=(rV Xa)) 0 rfl (λ_ s=>s.l.r)) (Xe 0)))) λa24 v25=>(Xw (K:=K) (r:=Xa) 3 (EvB.sh (XM (Xe 1) (XE (XG (Xc (r:=(rV Xa)) 0 rfl (λ_ s=>s.l.l.r)) (Xe 1)) (Fr (Xe 1) (YO (Xc (r:=Xa) 2 rfl (λ_ s=>s.r)) (Xe 1)))))) λa30 v31=>(XY (EvS.ev (Ye (Xi (r:=Xa) 2 rfl (λ_ s=>s.l.r)) (EvB.sh (XM (Xc (r:=Xa) 3 rfl (λ_ s=>s.r)) (XT (Xc (r:=Xa) 2 rfl (λ_ s=>s.l.r)) (XG (Ev.toB (Zi (Xm (EvB.sh (Xe 0)) (Xm (EvB.sh (Xe 0)) (Xm (EvB.sh (QK (Xe 3))) (Xm (EvB.sh (Xe 1)) (Xm (EvB.sh (V9 (Xe 10) (Xe 50))) YL))))))) (XG (Xc (r:=(rV Xa)) 0 rfl (λ_ s=>s.l.l.l.r)) (Xe 2))))))))))))
theorem Qc:FnScope ["_law_word","_law_strands","_law_start","_law_step","_law_seen","_law_walk","_law_at","_law_k","_law_low","_law_sign"] ["_law_word","_law_strands","_law_start","_law_step","_law_seen"] (Xk FE):=⟨rfl,rfl,rfl,by decide+kernel,rfl,by decide+kernel,by decide+kernel⟩
theorem HI (D:Def K mg "_law_ring" FE ["_law_word","_law_strands","_law_start","_law_step","_law_seen"])(Z:Blt mg):Fn P w K mg base 1 "_law_ring" ["_law_word","_law_strands","_law_start","_law_step","_law_seen"] (LG (rV (rP2 Xa Xa)) Xa Xa Xa (oL (oF XZ)) (oL (oF Xa)) V1 K):=by
 refine YY D Qc (λvs H Q E h=>?_) (λf cdv A outer s H vs Q E hr h=>?_)
 ·obtain⟨v_0,v_1,v_2,v_3,v_4,a_0,a_1,a_2,a_3,a_4,b,rfl,_⟩:=h;rfl
 obtain⟨v_0,v_1,v_2,v_3,v_4,a_0,a_1,a_2,a_3,a_4,b,rfl,C_4,hw,h_0,h_1,h_2,h_3,h_4,hm,q⟩:=h
 have hu:=hu8 hr
 have hu1:=YX hr
 refine⟨_,(Xd (Xp (i:=5) Qc.nd rfl (Or.inl rfl) (Yg Xg))
  (Xd (Xp (i:=6) Qc.nd rfl (Or.inl rfl) (pv 2))
  (Xd (JL PassesOwn.never (Gq (Gv (XQ (Xo K rfl) (pv 4) (pv 6) (λ_ _=>rfl))))
   (Xd (Vx Gi (DI (pv 4) (pv 6) Qp))
   (Xd (Zw PassesOwn.never rfl (Zj rfl Z.b_range (Xb (Yp (XU K rfl) rfl Z.b_len PySem.boot_len (Xb (pv 0) Xg)) Xg)) (Xq (i:=7) Qc.nd rfl (Or.inl rfl))
    (Xd (Vx (XQ (Xo K rfl) (pv 0) (pv 7) (λ_ _=>rfl)) (QG rfl (Xu (Xq (i:=8) Qc.nd rfl (Or.inl rfl)) (Xu (Xq (i:=9) Qc.nd rfl (Or.inl rfl)) Y1))))
    (Xd (ZI (XH Jo (pv 6) (pv 8) (X2 _))
     (Xd (YZ (Jq PySem.F.plainAttrs_list PySem.F.slot_list_append PySem.F.type_list_append Yh (pv 5) (Xb (Xl Yq (Xl X9 Xf (Xl Yq (pv 7) (pv 3))) (pv 9)) Xg)))
     (Xd (Xp (i:=6) Qc.nd rfl (Or.inl rfl) (Xl X9 (pv 8) Xf))
     Xj))
     (Xd (ZI (XH Jo (pv 6) (Xl X9 (pv 8) Xf) (X2 _))
      (Xd (YZ (Jq PySem.F.plainAttrs_list PySem.F.slot_list_append PySem.F.type_list_append Yh (pv 5) (Xb (Xl Yq (K0 J0 (Xl X9 Xf (Xl Yq (pv 7) (pv 3)))) (pv 9)) Xg)))
      (Xd (Xp (i:=6) Qc.nd rfl (Or.inl rfl) (pv 8))
      Xj))
      Xj)
     Xj))
    Xj)))
   Xj)))
  (Xd (XJ (pv 5))
  Xj)))),?_⟩
 refine Iz (S:=(SC.addO (SC.add (SC.add (SC.add (SC.add SC.nil K (rV (rP2 Xa Xa)) v_0 a_0) K Xa v_1 a_1) K Xa v_2 a_2) K Xa v_3 a_3) K (oL (oF XZ)) v_4 a_4 C_4)) (σ:=[some v_0,some v_1,some v_2,some v_3,some v_4,none,none,none,none,none]) 2 1 (by decide) ?_ hw (SC.i (SC.i (SC.i (SC.i (SC.i SC.t h_0) h_1) h_2) h_3) h_4) hm q rfl
 unfold V1
 exact(Ya (K:=K) (o:=(oL (oF Xa))) 5 0 (V3 (o:=(oF Xa))) (Nat.le_of_ble_eq_true rfl) λa1 v2 C3=>(Xw (K:=K) (r:=Xa) 6 (Xi (r:=Xa) 2 rfl (λ_ s=>s.l.l.l.r)) λa4 v5=>(Uo (J:=({oo:=λx6=>[x6.2.2.2.2.2.2,x6.2.2.2.2.2.1],ss:=λx6=>[some v_0,some v_1,some v_2,some v_3,some v_4,some x6.2.2.2.2.1,some x6.2.2.2.1,x6.1,x6.2.1,x6.2.2.1],sc:=λg7 x6=>(SC.addO (SC.add (SC.addO (SC.add (SC.add (SC.add (SC.add SC.nil K (rV (rP2 Xa Xa)) v_0 a_0) K Xa v_1 a_1) K Xa v_2 a_2) K Xa v_3 a_3) K (oL (oF XZ)) v_4 g7.1 x6.2.2.2.2.2.1) K Xa x6.2.2.2.1 g7.2.1) K (oL (oF Xa)) x6.2.2.2.2.1 g7.2.2 x6.2.2.2.2.2.2)}:Jn ((List Bool)×Int×(List Int)) (Option V×Option V×Option V×V×V×List Xy×List Xy))) (a_1.natAbs+2) ((none),(none),(none),v5,v2,C_4,C3) (a_4,a4,a1) rfl rfl (λ_ s=>(SC.i (SC.i (SC.i (SC.i (SC.i (SC.i (SC.i SC.t s.l.l.l.l.l.l.r) s.l.l.l.l.l.r) s.l.l.l.l.r) s.l.l.l.r) s.l.l.r) s.r) s.l.r)) (λg8 x9=>(Uz (GZ (K:=K) (XG (Vu (o:=(oL (oF XZ))) 4 1 rfl rfl (λ_ s=>s.l.l.r)) (Xc (r:=Xa) 6 rfl (λ_ s=>s.l.r)))))) (λg8 x9=>(Um (K:=K) (o:=(oF XZ)) 4 1 rfl rfl (λ_ s=>s.l.l.r) (EvS.ev (EvB.sh (Va true))) (λ_=>(Xc (r:=Xa) 6 rfl (λ_ s=>s.l.r))) λa15 C16=>(ZX (K:=K) (J:=({oo:=λx19=>[x19.2.2.2.2.2,C16],ss:=λx19=>[some v_0,some v_1,some v_2,some v_3,some v_4,some x19.2.2.2.2.1,some x19.2.2.2.1,x19.1,x19.2.1,x19.2.2.1],sc:=λg20 x19=>(SC.addO (SC.add (SC.addO (SC.add (SC.add (SC.add (SC.add SC.nil K (rV (rP2 Xa Xa)) v_0 a_0) K Xa v_1 a_1) K Xa v_2 a_2) K Xa v_3 a_3) K (oL (oF XZ)) v_4 a15 C16) K Xa x19.2.2.2.1 g20.1) K (oL (oF Xa)) x19.2.2.2.2.1 g20.2 x19.2.2.2.2.2)}:Jn (Int×(List Int)) (Option V×Option V×Option V×V×V×List Xy))) (λ_=>tg1 7) ((x9.1),(x9.2.1),(x9.2.2.1),x9.2.2.2.1,x9.2.2.2.2.1,x9.2.2.2.2.2.2) (g8.2.1,g8.2.2) (YJ (Qb (Xc (r:=(rV (rP2 Xa Xa))) 0 rfl (λ_ s=>s.l.l.l.l.l.l.l.r)))) rfl rfl (λ_ s=>(SC.i (SC.i (SC.i (SC.i (SC.i (SC.i (SC.i SC.t s.l.l.l.l.l.l.l.r) s.l.l.l.l.l.l.r) s.l.l.l.l.l.r) s.l.l.l.l.r) s.r) s.l.l.r) s.l.r)) (λg21 x22 a23 v24=>(Db 8 9 (EvB.sh (XG (Xc (r:=(rV (rP2 Xa Xa))) 0 rfl (λ_ s=>s.l.l.l.l.l.l.l.r)) (Xc (r:=Xa) 7 rfl (λ_ s=>s.r)))) λa27 v28 v29=>(Z5 (J:=({oo:=λx33=>[x33.2.2,C16],ss:=λx33=>[some v_0,some v_1,some v_2,some v_3,some v_4,some x33.2.1,some x33.1,some v24,some v28,some v29],sc:=λg34 x33=>(SC.addO (SC.add (SC.add (SC.add (SC.add (SC.addO (SC.add (SC.add (SC.add (SC.add SC.nil K (rV (rP2 Xa Xa)) v_0 a_0) K Xa v_1 a_1) K Xa v_2 a_2) K Xa v_3 a_3) K (oL (oF XZ)) v_4 a15 C16) K Xa v24 a23) K Xa v28 a27.1) K Xa v29 a27.2) K Xa x33.1 g34.1) K (oL (oF Xa)) x33.2.1 g34.2 x33.2.2)}:Jn (Int×(List Int)) (V×V×List Xy))) (QZ (Fd:=FNd ({oo:=λx33=>[x33.2.2,C16],ss:=λx33=>[some v_0,some v_1,some v_2,some v_3,some v_4,some x33.2.1,some x33.1,some v24,some v28,some v29],sc:=λg34 x33=>(SC.addO (SC.add (SC.add (SC.add (SC.add (SC.addO (SC.add (SC.add (SC.add (SC.add SC.nil K (rV (rP2 Xa Xa)) v_0 a_0) K Xa v_1 a_1) K Xa v_2 a_2) K Xa v_3 a_3) K (oL (oF XZ)) v_4 a15 C16) K Xa v24 a23) K Xa v28 a27.1) K Xa v29 a27.2) K Xa x33.1 g34.1) K (oL (oF Xa)) x33.2.1 g34.2 x33.2.2)}:Jn (Int×(List Int)) (V×V×List Xy))) (XA (K:=K) (ZW (Xc (r:=Xa) 6 rfl (λ_ s=>s.l.l.l.l.r)) (Xc (r:=Xa) 8 rfl (λ_ s=>s.l.r)))) (Qk (K:=K) (o:=(oF Xa)) (f:=λa43=>(Rs.bind (Rs.bind (Rs.ok a27.1) λx46=>(Rs.bind (Rs.ok (1:Int)) λx47=>(Rs.ok (x46+x47)))) λa44=>(Rs.ok (a44,a43)))) 5 0 rfl rfl rfl (λ_ s=>s.l.l.l.r) (EvS.ev (EvB.sh (XT (XM (Xe 1) (XT (Xc (r:=Xa) 7 rfl (λ_ s=>s.l.l.r)) (Xc (r:=Xa) 3 rfl (λ_ s=>s.l.l.l.l.l.l.r)))) (Xc (r:=Xa) 9 rfl (λ_ s=>s.r))))) λa41 C42=>(Xw (K:=K) (r:=Xa) 6 (EvB.sh (XM (Xc (r:=Xa) 8 rfl (λ_ s=>s.l.l.r)) (Xe 1))) λa44 v45=>(XL (J:=_) (v45,x22.2.2.2.2.1,C42) (a44,(g21.2++[a41])) rfl rfl (λ_ s=>(SC.i (SC.i (SC.i (SC.i (SC.i (SC.i (SC.i (SC.i (SC.i (SC.i SC.t s.l.l.l.l.l.l.l.l.l.l.l.r) s.l.l.l.l.l.l.l.l.l.l.r) s.l.l.l.l.l.l.l.l.l.r) s.l.l.l.l.l.l.l.l.r) s.l.l.l.l.l.l.l.r) s.l.l.l.l.r) s.l.l.l.r) s.l.l.r) s.r) s.l.r))))) (Z5 (J:=({oo:=λx53=>[x53.2.2,C16],ss:=λx53=>[some v_0,some v_1,some v_2,some v_3,some v_4,some x53.2.1,some x53.1,some v24,some v28,some v29],sc:=λg54 x53=>(SC.addO (SC.add (SC.add (SC.add (SC.add (SC.addO (SC.add (SC.add (SC.add (SC.add SC.nil K (rV (rP2 Xa Xa)) v_0 a_0) K Xa v_1 a_1) K Xa v_2 a_2) K Xa v_3 a_3) K (oL (oF XZ)) v_4 a15 C16) K Xa v24 a23) K Xa v28 a27.1) K Xa v29 a27.2) K Xa x53.1 g54.1) K (oL (oF Xa)) x53.2.1 g54.2 x53.2.2)}:Jn (Int×(List Int)) (V×V×List Xy))) (QZ (Fd:=FNd ({oo:=λx53=>[x53.2.2,C16],ss:=λx53=>[some v_0,some v_1,some v_2,some v_3,some v_4,some x53.2.1,some x53.1,some v24,some v28,some v29],sc:=λg54 x53=>(SC.addO (SC.add (SC.add (SC.add (SC.add (SC.addO (SC.add (SC.add (SC.add (SC.add SC.nil K (rV (rP2 Xa Xa)) v_0 a_0) K Xa v_1 a_1) K Xa v_2 a_2) K Xa v_3 a_3) K (oL (oF XZ)) v_4 a15 C16) K Xa v24 a23) K Xa v28 a27.1) K Xa v29 a27.2) K Xa x53.1 g54.1) K (oL (oF Xa)) x53.2.1 g54.2 x53.2.2)}:Jn (Int×(List Int)) (V×V×List Xy))) (XA (K:=K) (ZW (Xc (r:=Xa) 6 rfl (λ_ s=>s.l.l.l.l.r)) (XM (Xc (r:=Xa) 8 rfl (λ_ s=>s.l.r)) (Xe 1)))) (Qk (K:=K) (o:=(oF Xa)) (f:=λa64=>(Rs.bind (Rs.ok a27.1) λa65=>(Rs.ok (a65,a64)))) 5 0 rfl rfl rfl (λ_ s=>s.l.l.l.r) (EvS.ev (EvB.sh (XT (QK (XM (Xe 1) (XT (Xc (r:=Xa) 7 rfl (λ_ s=>s.l.l.r)) (Xc (r:=Xa) 3 rfl (λ_ s=>s.l.l.l.l.l.l.r))))) (Xc (r:=Xa) 9 rfl (λ_ s=>s.r))))) λa62 C63=>(Xw (K:=K) (r:=Xa) 6 (Xi (r:=Xa) 8 rfl (λ_ s=>s.l.l.r)) λa65 v66=>(XL (J:=_) (v66,x22.2.2.2.2.1,C63) (a65,(g21.2++[a62])) rfl rfl (λ_ s=>(SC.i (SC.i (SC.i (SC.i (SC.i (SC.i (SC.i (SC.i (SC.i (SC.i SC.t s.l.l.l.l.l.l.l.l.l.l.l.r) s.l.l.l.l.l.l.l.l.l.l.r) s.l.l.l.l.l.l.l.l.l.r) s.l.l.l.l.l.l.l.l.r) s.l.l.l.l.l.l.l.r) s.l.l.l.l.r) s.l.l.l.r) s.l.l.r) s.r) s.l.r))))) (XL (J:=_) (x22.2.2.2.1,x22.2.2.2.2.1,x22.2.2.2.2.2) (g21.1,g21.2) rfl rfl (λ_ s=>(SC.i (SC.i (SC.i (SC.i (SC.i (SC.i (SC.i (SC.i (SC.i (SC.i SC.t s.l.l.l.l.l.l.l.l.l.r) s.l.l.l.l.l.l.l.l.r) s.l.l.l.l.l.l.l.r) s.l.l.l.l.l.l.r) s.l.l.l.l.l.r) s.l.l.r) s.l.r) s.r) s.l.l.l.l.r) s.l.l.l.r)))) λg68 x67=>(XL (J:=_) (x67.1,x67.2.1,x67.2.2) (g68.1,g68.2) rfl rfl (λ_ s=>(SC.i (SC.i (SC.i (SC.i (SC.i (SC.i (SC.i (SC.i (SC.i (SC.i SC.t s.l.l.l.l.l.l.l.l.l.r) s.l.l.l.l.l.l.l.l.r) s.l.l.l.l.l.l.l.r) s.l.l.l.l.l.l.r) s.l.l.l.l.l.r) s.l.l.l.l.r) s.l.l.l.r) s.l.l.r) s.l.r) s.r))))) λg70 x69=>(XL (J:=_) ((some v24),(some v28),(some v29),x69.1,x69.2.1,x69.2.2) (g70.1,g70.2) rfl rfl (λ_ s=>(SC.i (SC.i (SC.i (SC.i (SC.i (SC.i (SC.i SC.t s.l.l.l.l.l.l.l.l.l.r) s.l.l.l.l.l.l.l.l.r) s.l.l.l.l.l.l.l.r) s.l.l.l.l.l.l.r) s.l.l.l.l.l.r) s.l.r) s.r)))))) λg71 x72=>(XL (J:=_) ((x72.1),(x72.2.1),(x72.2.2.1),x72.2.2.2.1,x72.2.2.2.2.1,C16,x72.2.2.2.2.2) (a15,g71.1,g71.2) rfl rfl (λ_ s=>(SC.i (SC.i (SC.i (SC.i (SC.i (SC.i (SC.i SC.t s.l.l.l.l.l.l.r) s.l.l.l.l.l.r) s.l.l.l.l.r) s.l.l.l.r) s.l.l.r) s.l.r) s.r)))))) λg74 x75=>(Bt (K:=K) (q:=(oL (oF XZ))) 1 rfl (λ_ s=>s.l.l.r) (YI (o:=(oL (oF Xa))) 5 0 rfl rfl (λ_ s=>s.r))))))
theorem QX:FnScope ["_law_word","_law_strands","_law_step","_law_seen","_law_walks","_law_start"] ["_law_word","_law_strands","_law_step"] (Xk JU):=⟨rfl,rfl,rfl,by decide+kernel,rfl,by decide+kernel,by decide+kernel⟩
theorem DN (D:Def K mg "_law_closed" JU ["_law_word","_law_strands","_law_step"])(g_ring:Fn P w K mg base 1 "_law_ring" ["_law_word","_law_strands","_law_start","_law_step","_law_seen"] (LG (rV (rP2 Xa Xa)) Xa Xa Xa (oL (oF XZ)) (oL (oF Xa)) V1 K))(Z:Blt mg):Fn P w K mg base 2 "_law_closed" ["_law_word","_law_strands","_law_step"] (sp3 (rV (rP2 Xa Xa)) Xa Xa (oT2 (oL (oL (oF Xa))) (oL (oF (rP2 Xa Xa)))) ZE K):=by
 refine YY D QX (λvs H Q E h=>?_) (λf cdv A outer s H vs Q E hr h=>?_)
 ·obtain⟨v_0,v_1,v_2,a_0,a_1,a_2,b,rfl,_⟩:=h;rfl
 obtain⟨v_0,v_1,v_2,a_0,a_1,a_2,b,rfl,h_0,h_1,h_2,hm,q⟩:=h
 have hu:=hu8 hr
 have hu1:=YX hr
 refine⟨_,(Xd (Xp (i:=3) QX.nd rfl (Or.inl rfl) (Xl Gr (Yg (Xb Gi Xg)) (pv 1)))
  (Xd (Xp (i:=4) QX.nd rfl (Or.inl rfl) (Yg Xg))
  (Xd (Zw PassesOwn.never rfl (Zj rfl Z.b_range (Xb (pv 1) Xg)) (Xq (i:=5) QX.nd rfl (Or.inl rfl))
   (Xd (ZI (Gq (Gv (XQ (Xo K rfl) (pv 3) (pv 5) (λ_ _=>rfl))))
    (Xd (YZ (Jq PySem.F.plainAttrs_list PySem.F.slot_list_append PySem.F.type_list_append Yh (pv 4) (Xb (Yf g_ring hr (by decide) (Xb (pv 0) (Xb (pv 1) (Xb (pv 5) (Xb (pv 2) (Xb (pv 3) Xg)))))) Xg)))
    Xj)
    Xj)
   Xj))
  (Xd (XJ (X1 (Xb (pv 4) (Xb (Zu (sc:=(Xk JU)) (N0:=["_law_word","_law_strands","_law_step","_law_seen","_law_walks","_law_start"]) (tns:=["_law_k"]) (caps:=[(2,"_law_step"),(0,"_law_word")]) rfl (Zj rfl Z.b_range (Xb (Yp (XU K rfl) rfl Z.b_len PySem.boot_len (Xb (pv 0) Xg)) Xg)) (ZY (by decide)) (λcl C s H ex E=>⟨Xq (i:=0) (show List.Nodup (["_law_k","_law_step","_law_word"]:List Str) by decide+kernel) rfl (Or.inl rfl),ZG,(X1 (Xb (Xl X9 Xf (Xl Yq (pv 0) (pv 1))) (Xb (XQ (Zh K rfl) (XQ (Xo K rfl) (pv 2) (pv 0) (λ_ _=>rfl)) Xf (λ_ _=>rfl)) Xg)))⟩)) Xg))))
  Xj)))),?_⟩
 refine Y8 (S:=(SC.add (SC.add (SC.add SC.nil K (rV (rP2 Xa Xa)) v_0 a_0) K Xa v_1 a_1) K Xa v_2 a_2)) (σ:=[some v_0,some v_1,some v_2,none,none,none]) 2 ?_ (SC.i (SC.i (SC.i SC.t h_0) h_1) h_2) hm q rfl
 unfold ZE
 exact(Ya (K:=K) (o:=(oL (oF XZ))) 3 1 (GJ (Ev.ls (Zi (Xm (EvB.sh (Va false)) YL))) (Xc (r:=Xa) 1 rfl (λ_ s=>s.l.r))) (Nat.le_of_ble_eq_true rfl) λa1 v2 C3=>(Ya (K:=K) (o:=(oL (oL (oF Xa)))) 4 0 (V3 (o:=(oL (oF Xa)))) (Nat.le_of_ble_eq_true rfl) λa9 v10 C11=>(ZX (K:=K) (J:=({oo:=λx13=>[x13.2.2.2.1,x13.2.2.2.2],ss:=λx13=>[some v_0,some v_1,some v_2,some x13.2.2.1,some x13.2.1,x13.1],sc:=λg14 x13=>(SC.addO (SC.addO (SC.add (SC.add (SC.add SC.nil K (rV (rP2 Xa Xa)) v_0 a_0) K Xa v_1 a_1) K Xa v_2 a_2) K (oL (oL (oF Xa))) x13.2.1 g14.1 x13.2.2.2.1) K (oL (oF XZ)) x13.2.2.1 g14.2 x13.2.2.2.2)}:Jn ((List (List Int))×(List Bool)) (Option V×V×V×List Xy×List Xy))) (λ_=>tg1 5) ((none),v10,v2,C11,C3) (a9,a1) (YJ (Xc (r:=Xa) 1 rfl (λ_ s=>s.l.l.l.r))) rfl rfl (λ_ s=>(SC.i (SC.i (SC.i (SC.i (SC.i SC.t s.l.l.l.l.r) s.l.l.l.r) s.l.l.r) s.r) s.l.r)) (λg15 x16 a17 v18=>(Z5 (J:=({oo:=λx23=>[x23.2.2.1,x23.2.2.2],ss:=λx23=>[some v_0,some v_1,some v_2,some x23.2.1,some x23.1,some v18],sc:=λg24 x23=>(SC.addO (SC.addO (SC.add (SC.add (SC.add (SC.add SC.nil K (rV (rP2 Xa Xa)) v_0 a_0) K Xa v_1 a_1) K Xa v_2 a_2) K Xa v18 a17) K (oL (oL (oF Xa))) x23.1 g24.1 x23.2.2.1) K (oL (oF XZ)) x23.2.1 g24.2 x23.2.2.2)}:Jn ((List (List Int))×(List Bool)) (V×V×List Xy×List Xy))) (QZ (Fd:=FNd ({oo:=λx23=>[x23.2.2.1,x23.2.2.2],ss:=λx23=>[some v_0,some v_1,some v_2,some x23.2.1,some x23.1,some v18],sc:=λg24 x23=>(SC.addO (SC.addO (SC.add (SC.add (SC.add (SC.add SC.nil K (rV (rP2 Xa Xa)) v_0 a_0) K Xa v_1 a_1) K Xa v_2 a_2) K Xa v18 a17) K (oL (oL (oF Xa))) x23.1 g24.1 x23.2.2.1) K (oL (oF XZ)) x23.2.1 g24.2 x23.2.2.2)}:Jn ((List (List Int))×(List Bool)) (V×V×List Xy×List Xy))) (Uz (GZ (K:=K) (XG (Vu (o:=(oL (oF XZ))) 3 1 rfl rfl (λ_ s=>s.l.r)) (Xc (r:=Xa) 5 rfl (λ_ s=>s.r))))) (Fv (K:=K) (q:=(oL (oF XZ))) (o:=(oL (oF Xa))) (g:=λa29 a30=>(Rs.ok (a29,a30))) 4 0 3 1 (by decide) rfl rfl (λ_ s=>s.l.l.r) rfl rfl (λ_ s=>s.l.r) (Xi (r:=(rV (rP2 Xa Xa))) 0 rfl (λ_ s=>s.l.l.l.l.l.r)) (Xi (r:=Xa) 1 rfl (λ_ s=>s.l.l.l.l.r)) (Xi (r:=Xa) 5 rfl (λ_ s=>s.r)) (Xi (r:=Xa) 2 rfl (λ_ s=>s.l.l.l.r)) λa29 a30 C31 C32=>(XL (J:=_) (x16.2.1,x16.2.2.1,C32,C31) (a29,a30) rfl rfl (λ_ s=>(SC.i (SC.i (SC.i (SC.i (SC.i (SC.i SC.t s.l.l.l.l.l.l.l.r) s.l.l.l.l.l.l.r) s.l.l.l.l.l.r) s.l.l.r) s.r) s.l.r)))) (XL (J:=_) (x16.2.1,x16.2.2.1,x16.2.2.2.1,x16.2.2.2.2) (g15.1,g15.2) rfl rfl (λ_ s=>(SC.i (SC.i (SC.i (SC.i (SC.i (SC.i SC.t s.l.l.l.l.l.r) s.l.l.l.l.r) s.l.l.l.r) s.r) s.l.l.r) s.l.r)))) λg35 x34=>(XL (J:=_) ((some v18),x34.1,x34.2.1,x34.2.2.1,x34.2.2.2) (g35.1,g35.2) rfl rfl (λ_ s=>(SC.i (SC.i (SC.i (SC.i (SC.i SC.t s.l.l.l.l.l.r) s.l.l.l.l.r) s.l.l.l.r) s.l.r) s.r))))) λg36 x37=>(XY (QR (YI (o:=(oL (oL (oF Xa)))) 4 0 rfl rfl (λ_ s=>s.l.r)) λ_=>(ZK (λ_=>tg1 0) (YJ (Qb (Xc (r:=(rV (rP2 Xa Xa))) 0 rfl (λ_ s=>s.l.l.l.l.r)))) (λC40 a41 v42=>(EvS.ev (Ye (EvB.sh (XM (Xe 1) (XT (Xc (r:=Xa) 0 rfl (λ_ s=>s.r)) (Xc (r:=Xa) 1 rfl (λ_ s=>s.l.l.l.r))))) (EvB.sh (UE (XG (Xc (r:=(rV (rP2 Xa Xa))) 2 rfl (λ_ s=>s.l.l.l.l.l.r)) (Xc (r:=Xa) 0 rfl (λ_ s=>s.r))))))))))))))
theorem ZU:FnScope ["_law_low","_law_some","_law_first","_law_mid","_law_last","_law_one"] ["_law_low","_law_some"] (Xk UB):=⟨rfl,rfl,rfl,by decide+kernel,rfl,by decide+kernel,by decide+kernel⟩
theorem Cb (D:Def K mg "_law_threes" UB ["_law_low","_law_some"])(Z:Blt mg):Fn P w K mg base 1 "_law_threes" ["_law_low","_law_some"] (sp2 Xa Xa (oT2 (oL (oF (rP2 Xa Xa))) (oL (oF (rP2 Xa Xa)))) Qq K):=by
 refine YY D ZU (λvs H Q E h=>?_) (λf cdv A outer s H vs Q E hr h=>?_)
 ·obtain⟨v_0,v_1,a_0,a_1,b,rfl,_⟩:=h;rfl
 obtain⟨v_0,v_1,a_0,a_1,b,rfl,h_0,h_1,hm,q⟩:=h
 have hu:=hu8 hr
 have hu1:=YX hr
 refine⟨_,(Xd (Xp (i:=2) ZU.nd rfl (Or.inl rfl) (Xl Zz (Xl Yq Xf (Xl XV (pv 1) Xf)) Xf))
  (Xd (Xp (i:=3) ZU.nd rfl (Or.inl rfl) (Xl Zz (Xl Yq Xf (Xl XV (Xl Q1 (pv 1) Xf) Xf)) Xf))
  (Xd (Xp (i:=4) ZU.nd rfl (Or.inl rfl) (Xl Zz (Xl Yq Xf (Xl XV (Xl Q1 (pv 1) Xf) Xf)) Xf))
  (Xd (ZI (XH Jo (pv 2) (pv 4) (X2 _))
   (Xd (Xp (i:=3) ZU.nd rfl (Or.inl rfl) (pv 2))
   Xj)
   Xj)
  (Xd (Xp (i:=5) ZU.nd rfl (Or.inl rfl) (Yg (Xb (X1 (Xb (pv 0) (Xb (pv 2) Xg))) (Xb (X1 (Xb (Xl X9 (pv 0) Xf) (Xb (pv 3) Xg))) (Xb (X1 (Xb (pv 0) (Xb (pv 4) Xg))) Xg)))))
  (Xd (XJ (X1 (Xb (pv 5) (Xb (Yg (Xb (X1 (Xb (Xl X9 (pv 0) Xf) (Xb (pv 4) Xg))) (Xb (X1 (Xb (pv 0) (Xb (pv 3) Xg))) (Xb (X1 (Xb (Xl X9 (pv 0) Xf) (Xb (pv 2) Xg))) Xg)))) Xg Ks))))
  Xj)))))),?_⟩
 refine Y8 (S:=(SC.add (SC.add SC.nil K Xa v_0 a_0) K Xa v_1 a_1)) (σ:=[some v_0,some v_1,none,none,none,none]) 1 ?_ (SC.i (SC.i SC.t h_0) h_1) hm q rfl
 unfold Qq
 exact(Xw (K:=K) (r:=Xa) 2 (EvB.sh (YO (XT (Xe 2) (XE (Xc (r:=Xa) 1 rfl (λ_ s=>s.r)) (Xe 2))) (Xe 1))) λa1 v2=>(Xw (K:=K) (r:=Xa) 3 (EvB.sh (YO (XT (Xe 2) (XE (Vc (Xc (r:=Xa) 1 rfl (λ_ s=>s.l.r)) (Xe 2)) (Xe 2))) (Xe 1))) λa9 v10=>(Xw (K:=K) (r:=Xa) 4 (EvB.sh (YO (XT (Xe 2) (XE (Vc (Xc (r:=Xa) 1 rfl (λ_ s=>s.l.l.r)) (Xe 4)) (Xe 2))) (Xe 1))) λa19 v20=>(Z5 (J:=({oo:=λx32=>[[]],ss:=λx32=>[some v_0,some v_1,some v2,some x32,some v20,none],sc:=λg33 x32=>(SC.add (SC.add (SC.add (SC.add (SC.add SC.nil K Xa v_0 a_0) K Xa v_1 a_1) K Xa v2 a1) K Xa v20 a19) K Xa x32 g33)}:Jn (Int) (V))) (QZ (Fd:=FNd ({oo:=λx32=>[[]],ss:=λx32=>[some v_0,some v_1,some v2,some x32,some v20,none],sc:=λg33 x32=>(SC.add (SC.add (SC.add (SC.add (SC.add SC.nil K Xa v_0 a_0) K Xa v_1 a_1) K Xa v2 a1) K Xa v20 a19) K Xa x32 g33)}:Jn (Int) (V))) (XA (K:=K) (ZW (Xc (r:=Xa) 2 rfl (λ_ s=>s.l.l.r)) (Xc (r:=Xa) 4 rfl (λ_ s=>s.r)))) (Xw (K:=K) (r:=Xa) 3 (Xi (r:=Xa) 2 rfl (λ_ s=>s.l.l.r)) λa34 v35=>(XL (J:=_) (v35) (a34) rfl rfl (λ_ s=>(SC.i (SC.i (SC.i (SC.i (SC.i SC.t s.l.l.l.l.l.r) s.l.l.l.l.r) s.l.l.l.r) s.l.r) s.r)))) (XL (J:=_) (v10) (a9) rfl rfl (λ_ s=>(SC.i (SC.i (SC.i (SC.i (SC.i SC.t s.l.l.l.l.r) s.l.l.l.r) s.l.l.r) s.r) s.l.r)))) λg37 x36=>(Ya (K:=K) (o:=(oL (oF (rP2 Xa Xa)))) 5 0 (Zi (Xm (Ye (Xi (r:=Xa) 0 rfl (λ_ s=>s.l.l.l.l.r)) (Xi (r:=Xa) 2 rfl (λ_ s=>s.l.l.r))) (Xm (Ye (EvB.sh (XM (Xc (r:=Xa) 0 rfl (λ_ s=>s.l.l.l.l.r)) (Xe 1))) (Xi (r:=Xa) 3 rfl (λ_ s=>s.r))) (Xm (Ye (Xi (r:=Xa) 0 rfl (λ_ s=>s.l.l.l.l.r)) (Xi (r:=Xa) 4 rfl (λ_ s=>s.l.r))) YL)))) (Nat.le_of_ble_eq_true rfl) λa38 v39 C40=>(XY (QR (YI (o:=(oL (oF (rP2 Xa Xa)))) 5 0 rfl rfl (λ_ s=>s.r)) λ_=>(Zi (Xm (Ye (EvB.sh (XM (Xc (r:=Xa) 0 rfl (λ_ s=>s.l.l.l.l.l.r)) (Xe 1))) (Xi (r:=Xa) 4 rfl (λ_ s=>s.l.l.r))) (Xm (Ye (Xi (r:=Xa) 0 rfl (λ_ s=>s.l.l.l.l.l.r)) (Xi (r:=Xa) 3 rfl (λ_ s=>s.l.r))) (Xm (Ye (EvB.sh (XM (Xc (r:=Xa) 0 rfl (λ_ s=>s.l.l.l.l.l.r)) (Xe 1))) (Xi (r:=Xa) 2 rfl (λ_ s=>s.l.l.l.r))) YL)))))))))))
theorem Y6:FnScope ["_law_word","_law_strands","_law_some","_law_at","_law_low","_law_sign","_law_left","_law_right","_law_one","_law_other","_law_far"] ["_law_word","_law_strands","_law_some"] (Xk Uw):=⟨rfl,rfl,rfl,by decide+kernel,rfl,by decide+kernel,by decide+kernel⟩
theorem Cm (D:Def K mg "_law_beside" Uw ["_law_word","_law_strands","_law_some"])(g_threes:Fn P w K mg base 1 "_law_threes" ["_law_low","_law_some"] (sp2 Xa Xa (oT2 (oL (oF (rP2 Xa Xa))) (oL (oF (rP2 Xa Xa)))) Qq K))(Z:Blt mg):Fn P w K mg base 2 "_law_beside" ["_law_word","_law_strands","_law_some"] (LS (rV (rP2 Xa Xa)) Xa (rV Xa) (oT3 (oF (rV (rP2 Xa Xa))) (oL (oF (rP2 Xa Xa))) (oF Xa)) Qr K):=by
 refine YY D Y6 (λvs H Q E h=>?_) (λf cdv A outer s H vs Q E hr h=>?_)
 ·obtain⟨v_0,v_1,v_2,a_0,a_1,a_2,b,rfl,_⟩:=h;rfl
 obtain⟨v_0,v_1,v_2,a_0,a_1,a_2,b,rfl,Cf,hw,h_0,h_1,h_2,hm,q⟩:=h
 have hu:=hu8 hr
 have hu1:=YX hr
 refine⟨_,(Xd (Xp (i:=3) Y6.nd rfl (Or.inl rfl) (Xl XV (XQ (Xo K rfl) (pv 2) Xf (λ_ _=>rfl)) (Xl X9 (Yp (XU K rfl) rfl Z.b_len PySem.boot_len (Xb (pv 0) Xg)) Xf)))
  (Xd (Xp (i:=4) Y6.nd rfl (Or.inl rfl) (Xl XV (XQ (Xo K rfl) (pv 2) Xf (λ_ _=>rfl)) (Xl Zz (pv 1) Xf)))
  (Xd (Xp (i:=5) Y6.nd rfl (Or.inl rfl) (Xl Zz (Xl Yq Xf (Xl XV (XQ (Xo K rfl) (pv 2) Xf (λ_ _=>rfl)) Xf)) Xf))
  (Xd (H9 (i:=6) (j:=7) rfl Y6.nd rfl rfl (by decide) rfl rfl (Xb (Qo (QA K rfl) (pv 0) Jd (Jy (pv 3))) (Xb (Qo (QA K rfl) (pv 0) (Jy (pv 3)) Jd) Xg)) rfl)
  (Xd (ZI (XH Jo (XQ (Xo K rfl) (pv 2) Xf (λ_ _=>rfl)) Xf (X2 _))
   (Xd (XJ (X1 (Xb (pv 0) (Xb (Xl Zk (Xl Zk (pv 6) (Yg (Xb (X1 (Xb (pv 4) (Xb (pv 5) Xg))) (Xb (X1 (Xb (pv 4) (Xb (K0 J0 (pv 5)) Xg))) Xg)))) (pv 7)) (Xb (pv 1) Xg)))))
   Xj)
   Xj)
  (Xd (ZI (XH Jo (XQ (Xo K rfl) (pv 2) Xf (λ_ _=>rfl)) Xf (X2 _))
   (Xd (XJ (X1 (Xb (pv 0) (Xb (Xl Zk (pv 7) (pv 6)) (Xb (pv 1) Xg)))))
   Xj)
   Xj)
  (Xd (ZI (PW.pt (B7 (XH Jo (XQ (Xo K rfl) (pv 2) Xf (λ_ _=>rfl)) Xf (X2 _)) (Fi (XH G2 (pv 1) Xf (X2 _)))))
   (Xd (Vx (Yf g_threes hr (by decide) (Xb (Xl XV (XQ (Xo K rfl) (pv 2) Xf (λ_ _=>rfl)) (Xl Zz (pv 1) Xf)) (Xb (XQ (Xo K rfl) (pv 2) Xf (λ_ _=>rfl)) Xg))) (QG rfl (Xu (Xq (i:=8) Y6.nd rfl (Or.inl rfl)) (Xu (Xq (i:=9) Y6.nd rfl (Or.inl rfl)) Y1))))
   (Xd (XJ (X1 (Xb (Xl Zk (Xl Zk (pv 6) (pv 8)) (pv 7)) (Xb (Xl Zk (Xl Zk (pv 6) (pv 9)) (pv 7)) (Xb (pv 1) Xg)))))
   Xj))
   Xj)
  (Xd (ZI (PW.pt (B7 (XH Jo (XQ (Xo K rfl) (pv 2) Xf (λ_ _=>rfl)) Xf (X2 _)) (Fi (XH G2 (pv 1) Xf (X2 _)))))
   (Xd (Xp (i:=10) Y6.nd rfl (Or.inl rfl) (Yg (Xb (X1 (Xb Xf (Xb (pv 5) Xg))) (Xb (X1 (Xb (Xl X9 Xf (Xl XV (XQ (Xo K rfl) (pv 2) Xf (λ_ _=>rfl)) (Xl Zz (pv 1) Xf))) (Xb Xf Xg))) Xg))))
   (Xd (XJ (X1 (Xb (Xl Zk (Xl Zk (pv 6) (pv 10)) (pv 7)) (Xb (Xl Zk (Xl Zk (pv 6) (FW K rfl (pv 10) (K0 J0 Xf))) (pv 7)) (Xb (pv 1) Xg)))))
   Xj))
   Xj)
  (Xd (XJ (X1 (Xb (pv 0) (Xb (Xl Zk (pv 0) (Yg (Xb (X1 (Xb (Xl Zz (pv 1) Xf) (Xb (pv 5) Xg))) Xg))) (Xb (Xl X9 (pv 1) Xf) Xg)))))
  Xj))))))))),?_⟩
 refine Ie (S:=(SC.add (SC.add (SC.add SC.nil K (rV (rP2 Xa Xa)) v_0 a_0) K Xa v_1 a_1) K (rV Xa) v_2 a_2)) (σ:=[some v_0,some v_1,some v_2,none,none,none,none,none,none,none,none]) 0 ?_ hw (SC.i (SC.i (SC.i SC.t h_0) h_1) h_2) hm q rfl
 unfold Qr
 exact(Xw (K:=K) (r:=Xa) 3 (EvB.sh (XE (XG (Xc (r:=(rV Xa)) 2 rfl (λ_ s=>s.r)) (Xe 1)) (XM (Qb (Xc (r:=(rV (rP2 Xa Xa))) 0 rfl (λ_ s=>s.l.l.r))) (Xe 1)))) λa1 v2=>(Xw (K:=K) (r:=Xa) 4 (EvB.sh (XE (XG (Xc (r:=(rV Xa)) 2 rfl (λ_ s=>s.l.r)) (Xe 2)) (YO (Xc (r:=Xa) 1 rfl (λ_ s=>s.l.l.r)) (Xe 1)))) λa10 v11=>(Xw (K:=K) (r:=Xa) 5 (EvB.sh (YO (XT (Xe 2) (XE (XG (Xc (r:=(rV Xa)) 2 rfl (λ_ s=>s.l.l.r)) (Xe 3)) (Xe 2))) (Xe 1))) λa18 v19=>(HW (K:=K) 6 7 (Ev.sh (Q6 (EvS.ls (Xi (r:=(rV (rP2 Xa Xa))) 0 rfl (λ_ s=>s.l.l.l.l.l.r))) Qu (Qw (K:=K) (Xc (r:=Xa) 3 rfl (λ_ s=>s.l.l.r))))) (Ev.sh (Q6 (EvS.ls (Xi (r:=(rV (rP2 Xa Xa))) 0 rfl (λ_ s=>s.l.l.l.l.l.r))) (Qw (K:=K) (Xc (r:=Xa) 3 rfl (λ_ s=>s.l.l.r))) Qu)) λa36 a37 v38 v39=>(JS (XA (K:=K) (ZW (XG (Xc (r:=(rV Xa)) 2 rfl (λ_ s=>s.l.l.l.l.l.r)) (Xe 0)) (Xe 0))) (QV (K:=K) 0 rfl (Qz (EvS.ev (Xi (r:=(rV (rP2 Xa Xa))) 0 rfl (λ_ s=>s.l.l.l.l.l.l.l.r))) (λ_=>(Zt (Ev.ls (Zt (EvS.ls (Xi (r:=(rV (rP2 Xa Xa))) 6 rfl (λ_ s=>s.l.r))) (Ev.ls (Zi (Xm (Ye (Xi (r:=Xa) 4 rfl (λ_ s=>s.l.l.l.r)) (Xi (r:=Xa) 5 rfl (λ_ s=>s.l.l.r))) (Xm (Ye (Xi (r:=Xa) 4 rfl (λ_ s=>s.l.l.l.r)) (EvB.sh (QK (Xc (r:=Xa) 5 rfl (λ_ s=>s.l.l.r))))) YL)))))) (EvS.ls (Xi (r:=(rV (rP2 Xa Xa))) 7 rfl (λ_ s=>s.r))))) λ_ _=>(EvS.ev (Xi (r:=Xa) 1 rfl (λ_ s=>s.l.l.l.l.l.l.r))))) (JS (XA (K:=K) (ZW (XG (Xc (r:=(rV Xa)) 2 rfl (λ_ s=>s.l.l.l.l.l.r)) (Xe 0)) (Xe 1))) (QV (K:=K) 0 rfl (Qz (EvS.ev (Xi (r:=(rV (rP2 Xa Xa))) 0 rfl (λ_ s=>s.l.l.l.l.l.l.l.r))) (λ_=>(Zt (EvS.ls (Xi (r:=(rV (rP2 Xa Xa))) 7 rfl (λ_ s=>s.r))) (EvS.ls (Xi (r:=(rV (rP2 Xa Xa))) 6 rfl (λ_ s=>s.l.r))))) λ_ _=>(EvS.ev (Xi (r:=Xa) 1 rfl (λ_ s=>s.l.l.l.l.l.l.r))))) (JS (Fy (XA (K:=K) (ZW (XG (Xc (r:=(rV Xa)) 2 rfl (λ_ s=>s.l.l.l.l.l.r)) (Xe 0)) (Xe 2))) (XA (K:=K) (VT (Xc (r:=Xa) 1 rfl (λ_ s=>s.l.l.l.l.l.l.r)) (Xe 2)))) (Db 8 9 (Ev.sh (YF (XE (XG (Xc (r:=(rV Xa)) 2 rfl (λ_ s=>s.l.l.l.l.l.r)) (Xe 2)) (YO (Xc (r:=Xa) 1 rfl (λ_ s=>s.l.l.l.l.l.l.r)) (Xe 2))) (XG (Xc (r:=(rV Xa)) 2 rfl (λ_ s=>s.l.l.l.l.l.r)) (Xe 3)))) λa90 v91 v92=>(QV (K:=K) 0 rfl (Qz (EvS.ev (Ev.sh (o:=(oL (oF (rP2 Xa Xa)))) (r:=(rV (rP2 Xa Xa))) (Zt (Ev.ls (Zt (EvS.ls (Xi (r:=(rV (rP2 Xa Xa))) 6 rfl (λ_ s=>s.l.l.l.r))) (EvS.ls (Xi (r:=(rV (rP2 Xa Xa))) 8 rfl (λ_ s=>s.l.r))))) (EvS.ls (Xi (r:=(rV (rP2 Xa Xa))) 7 rfl (λ_ s=>s.l.l.r)))))) (λ_=>(Zt (Ev.ls (Zt (EvS.ls (Xi (r:=(rV (rP2 Xa Xa))) 6 rfl (λ_ s=>s.l.l.l.r))) (EvS.ls (Xi (r:=(rV (rP2 Xa Xa))) 9 rfl (λ_ s=>s.r))))) (EvS.ls (Xi (r:=(rV (rP2 Xa Xa))) 7 rfl (λ_ s=>s.l.l.r))))) λ_ _=>(EvS.ev (Xi (r:=Xa) 1 rfl (λ_ s=>s.l.l.l.l.l.l.l.l.r)))))) (JS (Fy (XA (K:=K) (ZW (XG (Xc (r:=(rV Xa)) 2 rfl (λ_ s=>s.l.l.l.l.l.r)) (Xe 0)) (Xe 3))) (XA (K:=K) (VT (Xc (r:=Xa) 1 rfl (λ_ s=>s.l.l.l.l.l.l.r)) (Xe 3)))) (Xw (K:=K) (r:=(rV (rP2 Xa Xa))) 10 (Ev.sh (Zi (Xm (Ye (EvB.sh (Xe 0)) (Xi (r:=Xa) 5 rfl (λ_ s=>s.l.l.r))) (Xm (Ye (EvB.sh (XM (Xe 2) (XE (XG (Xc (r:=(rV Xa)) 2 rfl (λ_ s=>s.l.l.l.l.l.r)) (Xe 2)) (YO (Xc (r:=Xa) 1 rfl (λ_ s=>s.l.l.l.l.l.l.r)) (Xe 3))))) (EvB.sh (Xe 1))) YL)))) λa111 v112=>(QV (K:=K) 0 rfl (Qz (EvS.ev (Ev.sh (o:=(oL (oF (rP2 Xa Xa)))) (r:=(rV (rP2 Xa Xa))) (Zt (Ev.ls (Zt (EvS.ls (Xi (r:=(rV (rP2 Xa Xa))) 6 rfl (λ_ s=>s.l.l.r))) (EvS.ls (Xi (r:=(rV (rP2 Xa Xa))) 10 rfl (λ_ s=>s.r))))) (EvS.ls (Xi (r:=(rV (rP2 Xa Xa))) 7 rfl (λ_ s=>s.l.r)))))) (λ_=>(Zt (Ev.ls (Zt (EvS.ls (Xi (r:=(rV (rP2 Xa Xa))) 6 rfl (λ_ s=>s.l.l.r))) (Ev.ls (De (EvS.ls (Xi (r:=(rV (rP2 Xa Xa))) 10 rfl (λ_ s=>s.r))) (QK (Xe 1)))))) (EvS.ls (Xi (r:=(rV (rP2 Xa Xa))) 7 rfl (λ_ s=>s.l.r))))) λ_ _=>(EvS.ev (Xi (r:=Xa) 1 rfl (λ_ s=>s.l.l.l.l.l.l.l.r)))))) (QV (K:=K) 0 rfl (Qz (EvS.ev (Xi (r:=(rV (rP2 Xa Xa))) 0 rfl (λ_ s=>s.l.l.l.l.l.l.l.r))) (λ_=>(Zt (EvS.ls (Xi (r:=(rV (rP2 Xa Xa))) 0 rfl (λ_ s=>s.l.l.l.l.l.l.l.r))) (Ev.ls (Zi (Xm (Ye (EvB.sh (YO (Xc (r:=Xa) 1 rfl (λ_ s=>s.l.l.l.l.l.l.r)) (Xe 1))) (Xi (r:=Xa) 5 rfl (λ_ s=>s.l.l.r))) YL))))) λ_ _=>(EvS.ev (EvB.sh (XM (Xc (r:=Xa) 1 rfl (λ_ s=>s.l.l.l.l.l.l.r)) (Xe 1))))))))))))))
theorem Zx:FnScope ["_law_script","_law_some","_law_strands","_law_word","_law_k","_law_prime_here","_law_factor","_law_one","_law_other","_law_wide","_law_step","_law_first","_law_second"] ["_law_script"] (Xk Ux):=⟨rfl,rfl,rfl,by decide+kernel,rfl,by decide+kernel,by decide+kernel⟩
theorem Ld {f:Addr}{fd:FuncData}(F:Fun K "law" "law" Ux f fd)(g_row:Fn P w K mg base 2 "_law_row" ["_law_script","_law_place","_law_sizes"] (sp3 (rL Xa) Xa (rV Xa) (oL (oF Xa)) K1 K))(g_prime:Fn P w K mg base 1 "_law_prime" ["_law_some"] (sp1 (rV Xa) (oF (rP2 Xa Xa)) Jm K))(g_beside:Fn P w K mg base 2 "_law_beside" ["_law_word","_law_strands","_law_some"] (LS (rV (rP2 Xa Xa)) Xa (rV Xa) (oT3 (oF (rV (rP2 Xa Xa))) (oL (oF (rP2 Xa Xa))) (oF Xa)) Qr K))(g_straight_many:Fn P w K mg base 8 "straight_many" ["drawing","prime","factor"] (sp3 (rP2 (rV (rV Xa)) (rV (rP2 Xa Xa))) Xa Xa (oF Xa) XX K))(g_closed:Fn P w K mg base 2 "_law_closed" ["_law_word","_law_strands","_law_step"] (sp3 (rV (rP2 Xa Xa)) Xa Xa (oT2 (oL (oL (oF Xa))) (oL (oF (rP2 Xa Xa)))) ZE K))(g_is_whole:Fn P w K mg base 1 "_law_is_whole" ["_law_one"] (sp1 Xa (oF XZ) ZR K))(Z:Blt mg):FnOk P w K mg base CX0 9 f fd ["_law_script"] (sp1 (rL Xa) (oF XZ) Ge K):=by
 refine F.ok Zx (λvs H Q E h=>?_) (λcdv A outer s H vs Q E hr h=>?_)
 ·obtain⟨v_0,a_0,b,rfl,_⟩:=h;rfl
 obtain⟨v_0,a_0,b,rfl,h_0,hm,q⟩:=h
 have hu:=hu8 hr
 have hu1:=YX hr
 refine⟨_,(Xd (Xp (i:=1) Zx.nd rfl (Or.inl rfl) (Yf g_row hr (by decide) (Xb (pv 0) (Xb Xf (Xb (Xl Zk (Yg (Xb Xf (Xb Xf (Xb Xf (Xb Xf (Xb Xf (Xb Xf (Xb Xf Xg)))))))) (Xl Gr (Yg (Xb Xf (Xb Xf Xg))) Xf)) Xg)))))
  (Xd (Xp (i:=2) Zx.nd rfl (Or.inl rfl) (Xl X9 Xf (XQ (Xo K rfl) (pv 1) Xf (λ_ _=>rfl))))
  (Xd (Xp (i:=3) Zx.nd rfl (Or.inl rfl) (Yg Xg))
  (Xd (Zw PassesOwn.never rfl (Zj rfl Z.b_range (Xb (XQ (Xo K rfl) (pv 1) Xf (λ_ _=>rfl)) Xg)) (Xq (i:=4) Zx.nd rfl (Or.inl rfl))
   (Xd (YZ (Jq PySem.F.plainAttrs_list PySem.F.slot_list_append PySem.F.type_list_append Yh (pv 3) (Xb (X1 (Xb (Xl XV (XQ (Xo K rfl) (pv 1) (Xl X9 Xf (Xl Yq Xf (pv 4))) (λ_ _=>rfl)) (Xl Zz (pv 2) Xf)) (Xb (Xl Zz (Xl Yq Xf (XQ (Xo K rfl) (pv 1) (Xl X9 Xf (Xl Yq Xf (pv 4))) (λ_ _=>rfl))) Xf) Xg))) Xg)))
   Xj))
  (Xd (Vx (Yf g_prime hr (by decide) (Xb (Yf g_row hr (by decide) (Xb (pv 0) (Xb Xf (Xb (Yg (Xb Xf (Xb Xf (Xb Xf Xg)))) Xg Ks)))) Xg)) (QG rfl (Xu (Xq (i:=5) Zx.nd rfl (Or.inl rfl)) (Xu (Xq (i:=6) Zx.nd rfl (Or.inl rfl)) Y1))))
  (Xd (Vx (Yf g_beside hr (by decide) (Xb (pv 3) (Xb (pv 2) (Xb (Qo (QA K rfl) (pv 1) (Jy Xf) Jd) Xg)))) (QG rfl (Xu (Xq (i:=7) Zx.nd rfl (Or.inl rfl)) (Xu (Xq (i:=8) Zx.nd rfl (Or.inl rfl)) (Xu (Xq (i:=9) Zx.nd rfl (Or.inl rfl)) Y1)))))
  (Xd (Xp (i:=10) Zx.nd rfl (Or.inl rfl) (XQ (Xo K rfl) (Yg (Xb Xf (Xb Xf (Xb Xf (Xb (Xl GD Xf Xf) Xg))))) (XQ (Xo K rfl) (pv 1) Xf (λ_ _=>rfl)) (λ_ _=>rfl)))
  (Xd (Xp (i:=11) Zx.nd rfl (Or.inl rfl) (Yf g_straight_many hr (by decide) (Xb (Yf g_closed hr (by decide) (Xb (pv 7) (Xb (pv 2) (Xb Xf Xg)))) (Xb (pv 5) (Xb (pv 6) Xg)))))
  (Xd (ZI (Gq (Gv (Yf g_is_whole hr (by decide) (Xb (pv 11) Xg))))
   (Xd (XJ Gi)
   Xj)
   Xj)
  (Xd (Xp (i:=12) Zx.nd rfl (Or.inl rfl) (Yf g_straight_many hr (by decide) (Xb (Yf g_closed hr (by decide) (Xb (pv 8) (Xb (pv 9) (Xb (pv 10) Xg)))) (Xb (pv 5) (Xb (pv 6) Xg)))))
  (Xd (ZI (PW.pt (Lc (XH Iu (pv 12) (pv 11) (X2 _)) (Eg (XH Fe (pv 11) Xf (X2 _)))))
   (Xd (XJ Gi)
   Xj)
   Xj)
  (Xd (JL PassesOwn.never (XH Jo (Xl XV (pv 11) (pv 5)) Xf (X2 _))
   (Xd (Xp (i:=11) Zx.nd rfl (Or.inl rfl) (Xl Q1 (pv 11) (pv 5)))
   Xj))
  (Xd (XJ (Hr Jo (pv 11) Xf (X2 _)))
  Xj))))))))))))),?_⟩
 refine Y8 (S:=(SC.add SC.nil K (rL Xa) v_0 a_0)) (σ:=[some v_0,none,none,none,none,none,none,none,none,none,none,none,none]) 1 ?_ (SC.i SC.t h_0) hm q rfl
 unfold Ge
 exact(Xw (K:=K) (r:=(rV Xa)) 1 (Ev.sh (Y3 (Xc (r:=(rL Xa)) 0 rfl (λ_ s=>s.r)) (Xe 0) (Ev.toB (Zt (Ev.ls (Zi (Xm (EvB.sh (Xe 19)) (Xm (EvB.sh (Xe 4)) (Xm (EvB.sh (Xe 5)) (Xm (EvB.sh (Xe 60)) (Xm (EvB.sh (Xe 60)) (Xm (EvB.sh (Xe 8)) (Xm (EvB.sh (Xe 4)) YL))))))))) (Ev.ls (GJ (Ev.ls (Zi (Xm (EvB.sh (Xe 4)) (Xm (EvB.sh (Xe 2)) YL)))) (Xe 18))))))) λa1 v2=>(Xw (K:=K) (r:=Xa) 2 (EvB.sh (XM (Xe 2) (XG (Xc (r:=(rV Xa)) 1 rfl (λ_ s=>s.r)) (Xe 1)))) λa31 v32=>(Ya (K:=K) (o:=(oL (oF (rP2 Xa Xa)))) 3 0 (V3 (o:=(oF (rP2 Xa Xa)))) (Nat.le_of_ble_eq_true rfl) λa37 v38 C39=>(ZX (K:=K) (J:=({oo:=λx43=>[x43.2.2],ss:=λx43=>[some v_0,some v2,some v32,some x43.2.1,x43.1,none,none,none,none,none,none,none,none],sc:=λg44 x43=>(SC.addO (SC.add (SC.add (SC.add SC.nil K (rL Xa) v_0 a_0) K (rV Xa) v2 a1) K Xa v32 a31) K (oL (oF (rP2 Xa Xa))) x43.2.1 g44 x43.2.2)}:Jn ((List (Int×Int))) (Option V×V×List Xy))) (λ_=>tg1 4) ((none),v38,C39) (a37) (YJ (XG (Xc (r:=(rV Xa)) 1 rfl (λ_ s=>s.l.l.r)) (Xe 0))) rfl rfl (λ_ s=>(SC.i (SC.i (SC.i (SC.i SC.t s.l.l.l.r) s.l.l.r) s.l.r) s.r)) (λg45 x46 a47 v48=>(Qk (K:=K) (o:=(oF (rP2 Xa Xa))) (f:=λa73=>(Rs.ok (a73))) 3 0 rfl rfl rfl (λ_ s=>s.l.r) (EvS.ev (Ye (EvB.sh (XE (XG (Xc (r:=(rV Xa)) 1 rfl (λ_ s=>s.l.l.l.r)) (XM (Xe 7) (XT (Xe 2) (Xc (r:=Xa) 4 rfl (λ_ s=>s.r))))) (YO (Xc (r:=Xa) 2 rfl (λ_ s=>s.l.l.r)) (Xe 1)))) (EvB.sh (YO (XT (Xe 2) (XG (Xc (r:=(rV Xa)) 1 rfl (λ_ s=>s.l.l.l.r)) (XM (Xe 8) (XT (Xe 2) (Xc (r:=Xa) 4 rfl (λ_ s=>s.r)))))) (Xe 1))))) λa71 C72=>(XL (J:=_) ((some v48),x46.2.1,C72) ((g45++[a71])) rfl rfl (λ_ s=>(SC.i (SC.i (SC.i (SC.i SC.t s.l.l.l.l.l.r) s.l.l.l.l.r) s.l.l.l.r) s.r))))) λg74 x75=>(Db 5 6 (EvB.sh (Ev.toB (YG (Ev.toB (Y3 (Xc (r:=(rL Xa)) 0 rfl (λ_ s=>s.l.l.l.r)) (Xe 1) (Ev.toB (Zi (Xm (EvB.sh (Xe 10)) (Xm (EvB.sh (Xe 99990)) (Xm (EvB.sh (Xe 5)) YL)))))))))) λa89 v90 v91=>(Ik (K:=K) (o:=(oL (oF (rP2 Xa Xa)))) 0 rfl (λ_ s=>s.l.l.r) (Eu 7 8 9 (Ev.sh (DT (Xi (r:=(rV (rP2 Xa Xa))) 3 rfl (λ_ s=>s.r)) (Xi (r:=Xa) 2 rfl (λ_ s=>s.l.l.l.l.r)) (Ev.sh (Q6 (EvS.ls (Xi (r:=(rV Xa)) 1 rfl (λ_ s=>s.l.l.l.l.l.r))) (Qw (K:=K) (Xe 2)) Qu)))) λa100 v101 v102 v103=>(Xw (K:=K) (r:=Xa) 10 (EvB.sh (XG (Ev.toB (Zi (Xm (EvB.sh (Xe 1)) (Xm (EvB.sh (Xe 2)) (Xm (EvB.sh (Xe 7)) (Xm (EvB.sh (V9 (Xe 10) (Xe 9))) YL)))))) (XG (Xc (r:=(rV Xa)) 1 rfl (λ_ s=>s.l.l.l.l.l.l.l.l.r)) (Xe 6)))) λa104 v105=>(Xw (K:=K) (r:=Xa) 11 (EvB.sh (Ev.toB (Y3 (Ev.toB (Y3 (Xc (r:=(rV (rP2 Xa Xa))) 7 rfl (λ_ s=>s.l.l.l.r)) (Xc (r:=Xa) 2 rfl (λ_ s=>s.l.l.l.l.l.l.l.l.r)) (Xe 1))) (Xc (r:=Xa) 5 rfl (λ_ s=>s.l.l.l.l.l.l.r)) (Xc (r:=Xa) 6 rfl (λ_ s=>s.l.l.l.l.l.r))))) λa121 v122=>(Gj (Uz (GZ (K:=K) (Ev.toB (YG (Xc (r:=Xa) 11 rfl (λ_ s=>s.r)))))) (XY (EvS.ev (EvB.sh (Va false)))) (Xw (K:=K) (r:=Xa) 12 (EvB.sh (Ev.toB (Y3 (Ev.toB (Y3 (Xc (r:=(rV (rP2 Xa Xa))) 8 rfl (λ_ s=>s.l.l.l.r)) (Xc (r:=Xa) 9 rfl (λ_ s=>s.l.l.r)) (Xc (r:=Xa) 10 rfl (λ_ s=>s.l.r)))) (Xc (r:=Xa) 5 rfl (λ_ s=>s.l.l.l.l.l.l.l.r)) (Xc (r:=Xa) 6 rfl (λ_ s=>s.l.l.l.l.l.l.r))))) λa135 v136=>(Gj (Em (XA (K:=K) (B0 (Xc (r:=Xa) 12 rfl (λ_ s=>s.r)) (Xc (r:=Xa) 11 rfl (λ_ s=>s.l.r)))) (XA (K:=K) (VZ (Xc (r:=Xa) 11 rfl (λ_ s=>s.l.r)) (Xe 1)))) (XY (EvS.ev (EvB.sh (Va false)))) (Uo (J:=({oo:=λx150=>[[]],ss:=λx150=>[some v_0,some v2,some v32,some x75.2.1,x75.1,some v90,some v91,some v101,some v102,some v103,some v105,some x150,some v136],sc:=λg151 x150=>(SC.add (SC.add (SC.add (SC.add (SC.add (SC.add (SC.add (SC.add (SC.add (SC.add (SC.add (SC.add SC.nil K (rL Xa) v_0 a_0) K (rV Xa) v2 a1) K Xa v32 a31) K (rV (rP2 Xa Xa)) x75.2.1 g74) K Xa v90 a89.1) K Xa v91 a89.2) K (rV (rP2 Xa Xa)) v101 a100.1) K (rV (rP2 Xa Xa)) v102 a100.2.1) K Xa v103 a100.2.2) K Xa v105 a104) K Xa v136 a135) K Xa x150 g151)}:Jn (Int) (V))) (200) (v122) (a121) rfl rfl (λ_ s=>(SC.i (SC.i (SC.i (SC.i (SC.i (SC.i (SC.i (SC.i (SC.i (SC.i (SC.i (SC.i SC.t s.l.l.l.l.l.l.l.l.l.l.l.l.r) s.l.l.l.l.l.l.l.l.l.l.l.r) s.l.l.l.l.l.l.l.l.l.l.r) s.l.l.l.l.l.l.r) s.l.l.l.l.l.l.l.l.r) s.l.l.l.l.l.l.l.r) s.l.l.l.l.l.r) s.l.l.l.l.r) s.l.l.l.r) s.l.l.r) s.r) s.l.r)) (λg152 x153=>(XA (K:=K) (ZW (XE (Xc (r:=Xa) 11 rfl (λ_ s=>s.r)) (Xc (r:=Xa) 5 rfl (λ_ s=>s.l.l.l.l.l.l.l.r))) (Xe 0)))) (λg152 x153=>(Xw (K:=K) (r:=Xa) 11 (EvB.sh (Vc (Xc (r:=Xa) 11 rfl (λ_ s=>s.r)) (Xc (r:=Xa) 5 rfl (λ_ s=>s.l.l.l.l.l.l.l.r)))) λa158 v159=>(XL (J:=_) (v159) (a158) rfl rfl (λ_ s=>(SC.i (SC.i (SC.i (SC.i (SC.i (SC.i (SC.i (SC.i (SC.i (SC.i (SC.i (SC.i SC.t s.l.l.l.l.l.l.l.l.l.l.l.l.r) s.l.l.l.l.l.l.l.l.l.l.l.r) s.l.l.l.l.l.l.l.l.l.l.r) s.l.l.l.l.l.l.l.l.l.r) s.l.l.l.l.l.l.l.l.r) s.l.l.l.l.l.l.l.r) s.l.l.l.l.l.l.r) s.l.l.l.l.l.r) s.l.l.l.l.r) s.l.l.l.r) s.l.l.r) s.r))))) λg162 x163=>(XY (EvS.ev (EvB.sh (ZW (Xc (r:=Xa) 11 rfl (λ_ s=>s.r)) (Xe 1))))))))))))))))))
end
theorem Bj {K:PySem.W.Frag}{mg:Str->Option Value}{h:Heap}(X:K.In h)(G:h.Ns mainGlobals mg){x p0:Str}{st:Stmt}{f:Addr}{oc:Value}{od an:Option Addr}{osl:Array (Option Value)}{kV doc pm cdv ct:Value}(hb:∀(kV doc pm:Value) (an:Option Addr) (cdv ct u0:Value),bindArgs (PySem.W.fnOf x x (Yy st) (Yo st) (Xk st) .none kV doc pm an cdv ct) ⟨[u0],[]⟩=pure ([p0].zip [u0]))(a:PySem.W.nsIn K mainGlobals x=some (some (.ref f)))(l:K.lookup f=some ⟨oc,od, .func (PySem.W.fnOf x x (Yy st) (Yo st) (Xk st) .none kV doc pm an cdv ct),osl⟩)(c:PySem.W.codeIn K cdv x=true)(k:PySem.W.keepIn K (.ref f)=true):Def K mg x st [p0]:=⟨f,_,Qm l c k,(Qm l c k).binds λ_ _ _ _ _ _ us hl=>(by obtain⟨_,rfl⟩:=IV hl;exact hb ..),PySem.W.mg_of X G a⟩
theorem BY {K:PySem.W.Frag}{mg:Str->Option Value}{h:Heap}(X:K.In h)(G:h.Ns mainGlobals mg){x p0 p1:Str}{st:Stmt}{f:Addr}{oc:Value}{od an:Option Addr}{osl:Array (Option Value)}{kV doc pm cdv ct:Value}(hb:∀(kV doc pm:Value) (an:Option Addr) (cdv ct u0 u1:Value),bindArgs (PySem.W.fnOf x x (Yy st) (Yo st) (Xk st) .none kV doc pm an cdv ct) ⟨[u0,u1],[]⟩=pure ([p0,p1].zip [u0,u1]))(a:PySem.W.nsIn K mainGlobals x=some (some (.ref f)))(l:K.lookup f=some ⟨oc,od, .func (PySem.W.fnOf x x (Yy st) (Yo st) (Xk st) .none kV doc pm an cdv ct),osl⟩)(c:PySem.W.codeIn K cdv x=true)(k:PySem.W.keepIn K (.ref f)=true):Def K mg x st [p0,p1]:=⟨f,_,Qm l c k,(Qm l c k).binds λ_ _ _ _ _ _ us hl=>(by obtain⟨_,_,rfl⟩:=IF hl;exact hb ..),PySem.W.mg_of X G a⟩
theorem Ep {K:PySem.W.Frag}{mg:Str->Option Value}{h:Heap}(X:K.In h)(G:h.Ns mainGlobals mg){x p0 p1 p2:Str}{st:Stmt}{f:Addr}{oc:Value}{od an:Option Addr}{osl:Array (Option Value)}{kV doc pm cdv ct:Value}(hb:∀(kV doc pm:Value) (an:Option Addr) (cdv ct u0 u1 u2:Value),bindArgs (PySem.W.fnOf x x (Yy st) (Yo st) (Xk st) .none kV doc pm an cdv ct) ⟨[u0,u1,u2],[]⟩=pure ([p0,p1,p2].zip [u0,u1,u2]))(a:PySem.W.nsIn K mainGlobals x=some (some (.ref f)))(l:K.lookup f=some ⟨oc,od, .func (PySem.W.fnOf x x (Yy st) (Yo st) (Xk st) .none kV doc pm an cdv ct),osl⟩)(c:PySem.W.codeIn K cdv x=true)(k:PySem.W.keepIn K (.ref f)=true):Def K mg x st [p0,p1,p2]:=⟨f,_,Qm l c k,(Qm l c k).binds λ_ _ _ _ _ _ us hl=>(by obtain⟨_,_,_,rfl⟩:=Io hl;exact hb ..),PySem.W.mg_of X G a⟩
theorem Mr {K:PySem.W.Frag}{mg:Str->Option Value}{h:Heap}(X:K.In h)(G:h.Ns mainGlobals mg){x p0 p1 p2 p3:Str}{st:Stmt}{f:Addr}{oc:Value}{od an:Option Addr}{osl:Array (Option Value)}{kV doc pm cdv ct:Value}(hb:∀(kV doc pm:Value) (an:Option Addr) (cdv ct u0 u1 u2 u3:Value),bindArgs (PySem.W.fnOf x x (Yy st) (Yo st) (Xk st) .none kV doc pm an cdv ct) ⟨[u0,u1,u2,u3],[]⟩=pure ([p0,p1,p2,p3].zip [u0,u1,u2,u3]))(a:PySem.W.nsIn K mainGlobals x=some (some (.ref f)))(l:K.lookup f=some ⟨oc,od, .func (PySem.W.fnOf x x (Yy st) (Yo st) (Xk st) .none kV doc pm an cdv ct),osl⟩)(c:PySem.W.codeIn K cdv x=true)(k:PySem.W.keepIn K (.ref f)=true):Def K mg x st [p0,p1,p2,p3]:=⟨f,_,Qm l c k,(Qm l c k).binds λ_ _ _ _ _ _ us hl=>(by obtain⟨_,_,_,_,rfl⟩:=Is hl;exact hb ..),PySem.W.mg_of X G a⟩
theorem ML {K:PySem.W.Frag}{mg:Str->Option Value}{h:Heap}(X:K.In h)(G:h.Ns mainGlobals mg){x p0 p1 p2 p3 p4:Str}{st:Stmt}{f:Addr}{oc:Value}{od an:Option Addr}{osl:Array (Option Value)}{kV doc pm cdv ct:Value}(hb:∀(kV doc pm:Value) (an:Option Addr) (cdv ct u0 u1 u2 u3 u4:Value),bindArgs (PySem.W.fnOf x x (Yy st) (Yo st) (Xk st) .none kV doc pm an cdv ct) ⟨[u0,u1,u2,u3,u4],[]⟩=pure ([p0,p1,p2,p3,p4].zip [u0,u1,u2,u3,u4]))(a:PySem.W.nsIn K mainGlobals x=some (some (.ref f)))(l:K.lookup f=some ⟨oc,od, .func (PySem.W.fnOf x x (Yy st) (Yo st) (Xk st) .none kV doc pm an cdv ct),osl⟩)(c:PySem.W.codeIn K cdv x=true)(k:PySem.W.keepIn K (.ref f)=true):Def K mg x st [p0,p1,p2,p3,p4]:=⟨f,_,Qm l c k,(Qm l c k).binds λ_ _ _ _ _ _ us hl=>(by obtain⟨_,_,_,_,_,rfl⟩:=LW hl;exact hb ..),PySem.W.mg_of X G a⟩
theorem IT {l:PySem.W.OpenLaw}{w:World}{K:PySem.W.Frag}{h:Heap}{mg:Str->Option Value}{fa f:Addr}{tk0:Tok}(X:K.In h)(G:h.Ns mainGlobals mg)(hfa:mg "law" =some (.ref fa)){od an:Option Addr}{sl:Array (Option Value)}{oc kV dc pm cd ct:Value}
  (D1:Def K mg "spot" Cq ["drawing","passage"])
  (D2:Def K mg "arcs" Ds ["drawing"])
  (D3:Def K mg "arc_count" Z1 ["drawing"])
  (D4:Def K mg "arcs_of_walk" Y5 ["walk"])
  (D5:Def K mg "arcs_of_ways" ZL ["walk","first"])
  (D6:Def K mg "meets" Gh ["drawing"])
  (D7:Def K mg "ties" FG ["drawing"])
  (D8:Def K mg "refuse_wrong" ZM ["prime","factor"])
  (D9:Def K mg "is_prime" Jc ["number"])
  (D10:Def K mg "equations" ZZ ["drawing","prime","factor"])
  (D11:Def K mg "solved" Qy ["drawing","prime","factor"])
  (D12:Def K mg "with_factors" Y4 ["rows"])
  (D13:Def K mg "unit" F9 ["count","at"])
  (D14:Def K mg "led_rows" Zd ["rows","count","prime"])
  (D15:Def K mg "times" Uc ["row","number","prime"])
  (D16:Def K mg "cleared" Q7 ["row","lead","arc","prime"])
  (D17:Def K mg "inverse_rest" ZH ["number","prime"])
  (D18:Def K mg "colouring_of" ZJ ["free","tied","count","prime"])
  (D19:Def K mg "straight_many" Zp ["drawing","prime","factor"])
  (D20:Def K mg "_law_cell" Cr ["_law_script","_law_place"])
  (D21:Def K mg "_law_mix" Hx ["_law_cell_here","_law_k"])
  (D22:Def K mg "_law_row" EY ["_law_script","_law_place","_law_sizes"])
  (D23:Def K mg "_law_is_whole" Jt ["_law_one"])
  (D24:Def K mg "_law_prime" KO ["_law_some"])
  (D25:Def K mg "_law_ring" FE ["_law_word","_law_strands","_law_start","_law_step","_law_seen"])
  (D26:Def K mg "_law_closed" JU ["_law_word","_law_strands","_law_step"])
  (D27:Def K mg "_law_threes" UB ["_law_low","_law_some"])
  (D28:Def K mg "_law_beside" Uw ["_law_word","_law_strands","_law_some"])
  (a:PySem.W.nsIn K mainGlobals "law" =some (some (.ref f)))(l0:K.lookup f=some ⟨oc,od, .func (PySem.W.fnOf "law" "law" (Yy Ux) (Yo Ux) (Xk Ux) .none kV dc pm an cd ct),sl⟩)(c:PySem.W.codeIn K cd "law" =true)(k:PySem.W.keepIn K (.ref f)=true)
  (z1:PySem.W.nsIn K mainGlobals "bool" =some none)
  (z2:PySem.W.nsIn K mainGlobals "dict" =some none)
  (z3:PySem.W.nsIn K mainGlobals "enumerate" =some none)
  (z4:PySem.W.nsIn K mainGlobals "int" =some none)
  (z5:PySem.W.nsIn K mainGlobals "isinstance" =some none)
  (z6:PySem.W.nsIn K mainGlobals "len" =some none)
  (z7:PySem.W.nsIn K mainGlobals "max" =some none)
  (z8:PySem.W.nsIn K mainGlobals "range" =some none)
  (z9:PySem.W.nsIn K mainGlobals "sum" =some none)
  (z10:PySem.W.nsIn K mainGlobals "zip" =some none)
  (w0:PySem.W.nsIn K mainGlobals "MOST_PRIME" =some (some (.int 100000 tk0)))
  :∃fd:FuncData,(∀(s:Shared) (v:Value),BindsTo s fd ⟨[v],[]⟩ [("_law_script",v)])/\∀base:Heap,K.In base->base.Ns mainGlobals mg->FnOk l.prog w K mg base CX0 9 fa fd ["_law_script"] (sp1 (rL Xa) (oF XZ) Ge K):=by
 have e:=hfa.symm.trans (PySem.W.mg_of X G a)
 cases e
 have N:∀{x:Str},PySem.W.nsIn K mainGlobals x=some none->mg x=none:=λz=>PySem.W.mg_none_of X G z
 have Z:Blt mg:=⟨N z1,N z2,N z3,N z4,N z5,N z6,N z7,N z8,N z9,N z10,⟨_,PySem.W.mg_of X G w0,_,rfl⟩⟩
 refine⟨PySem.W.fnOf "law" "law" (Yy Ux) (Yo Ux) (Xk Ux) .none kV dc pm an cd ct,λs v=>.of_eq rfl,λbase _ _=>?_⟩
 have g_cell:=EH (P:=l.prog) (w:=w) (base:=base) D20 Z
 have g_mix:=Iq (P:=l.prog) (w:=w) (base:=base) D21 Z
 have g_row:=IP (P:=l.prog) (w:=w) (base:=base) D22 g_cell g_mix Z
 have g_prime:=BF (P:=l.prog) (w:=w) (base:=base) D24 Z
 have g_threes:=Cb (P:=l.prog) (w:=w) (base:=base) D27 Z
 have g_beside:=Cm (P:=l.prog) (w:=w) (base:=base) D28 g_threes Z
 have g_arcs_of_walk:=Vi (P:=l.prog) (w:=w) (base:=base) D4 Z
 have g_arc_count:=Ko (P:=l.prog) (w:=w) (base:=base) D3 g_arcs_of_walk Z
 have g_times:=BP (P:=l.prog) (w:=w) (base:=base) D15 Z
 have g_inverse_rest:=Vq (P:=l.prog) (w:=w) (base:=base) D17 Z
 have g_cleared:=GT (P:=l.prog) (w:=w) (base:=base) D16 Z
 have g_led_rows:=KG (P:=l.prog) (w:=w) (base:=base) D14 g_times g_inverse_rest g_cleared Z
 have g_unit:=Ew (P:=l.prog) (w:=w) (base:=base) D13 Z
 have g_with_factors:=J6 (P:=l.prog) (w:=w) (base:=base) D12 g_unit Z
 have g_colouring_of:=Vm (P:=l.prog) (w:=w) (base:=base) D18 g_unit Z
 have g_is_prime:=Kz (P:=l.prog) (w:=w) (base:=base) D9 Z
 have g_refuse_wrong:=JZ (P:=l.prog) (w:=w) (base:=base) D8 g_is_prime Z
 have g_arcs_of_ways:=Vs (P:=l.prog) (w:=w) (base:=base) D5 g_arcs_of_walk Z
 have g_arcs:=Hs (P:=l.prog) (w:=w) (base:=base) D2 g_arcs_of_walk g_arcs_of_ways Z
 have g_spot:=Hd (P:=l.prog) (w:=w) (base:=base) D1 Z
 have g_meets:=BU (P:=l.prog) (w:=w) (base:=base) D6 g_arcs g_spot Z
 have g_ties:=ES (P:=l.prog) (w:=w) (base:=base) D7 g_meets Z
 have g_equations:=UP (P:=l.prog) (w:=w) (base:=base) D10 g_refuse_wrong g_arc_count g_ties Z
 have g_solved:=Fh (P:=l.prog) (w:=w) (base:=base) D11 g_arc_count g_led_rows g_with_factors g_colouring_of g_equations Z
 have g_straight_many:=JH (P:=l.prog) (w:=w) (base:=base) D19 g_solved Z
 have g_ring:=HI (P:=l.prog) (w:=w) (base:=base) D25 Z
 have g_closed:=DN (P:=l.prog) (w:=w) (base:=base) D26 g_ring Z
 have g_is_whole:=KK (P:=l.prog) (w:=w) (base:=base) D23 Z
 exact Ld (P:=l.prog) (w:=w) (base:=base) (Qm (st:=Ux) l0 c k) g_row g_prime g_beside g_straight_many g_closed g_is_whole Z
theorem MI {l:PySem.W.OpenLaw}{q:Program}{loose:List Str}{XP:(Str->Option Value)->Heap->Prop}{YP:World->Heap->Prop}{d:DefRec}{K:Params->PySem.W.Frag}(hn:l.most=some 63)(hdf:d.params.defaults=[])
  (hY:∀(w:World) (h:Heap),YP w h->(K w.params).In h)
  (F:∀(w:World) (mg:Str->Option Value) (fa:Addr) (h:Heap),(K w.params).In h->h.Ns mainGlobals mg->mg d.name=some (.ref fa)->
   ∃fd:FuncData,(∀(s:Shared) (u:Value),BindsTo s fd ⟨[u],[]⟩ [("_law_script",u)])/\∀base:Heap,(K w.params).In base->base.Ns mainGlobals mg->FnOk l.prog w (K w.params) mg base CX0 9 fa fd ["_law_script"] (sp1 (rL Xa) (oF XZ) Ge (K w.params))):
  PySem.W.WalkO q loose XP YP l.row.toRowW d [] (λf vs=>PySem.call f vs):=
 L2.EK (n:=63) (k:=9) (x:="_law_script") (CX:=λ_=>CX0) (sp:=λw=>sp1 (rL Xa) (oF XZ) Ge (K w.params)) hn (by decide) hdf ⟨rfl,by decide,by decide⟩ hY F (λ_ _ a ns hl _ hS=>⟨.ref a,ns,true,rfl,⟨a,_,rfl,hS,KD ns⟩,C6 ns hl,λv C H' w m ho=>ho.2⟩) λ_ _ _ _ _ z=>z
end My
open PySem PySem.W PyProof.Rows
set_option maxRecDepth 100000 in
set_option maxHeartbeats 0 in
theorem PySem.Challenge.cw_plait_k85_whole_words_of_plaits_holds : PySem.Challenge.rw_plait_k85_whole_words_of_plaits.Holds := by
  w_on; o_law; k_head; (case hw => w_witness2)
  k_fill
  refine My.MI (l := PySem.Challenge.rw_plait_k85_whole_words_of_plaits) rfl rfl (fun w h Y => PySem.W.kIn_of Y) ?F
  case F =>
    intro w mg fa h KX G hmg
    refine' My.IT KX G hmg (My.BY KX G (by intros; rfl) ?a1 ?l1 ?c1 ?k1) (My.Bj KX G (by intros; rfl) ?a2 ?l2 ?c2 ?k2) (My.Bj KX G (by intros; rfl) ?a3 ?l3 ?c3 ?k3) (My.Bj KX G (by intros; rfl) ?a4 ?l4 ?c4 ?k4) (My.BY KX G (by intros; rfl) ?a5 ?l5 ?c5 ?k5) (My.Bj KX G (by intros; rfl) ?a6 ?l6 ?c6 ?k6) (My.Bj KX G (by intros; rfl) ?a7 ?l7 ?c7 ?k7) (My.BY KX G (by intros; rfl) ?a8 ?l8 ?c8 ?k8) (My.Bj KX G (by intros; rfl) ?a9 ?l9 ?c9 ?k9) (My.Ep KX G (by intros; rfl) ?a10 ?l10 ?c10 ?k10) (My.Ep KX G (by intros; rfl) ?a11 ?l11 ?c11 ?k11) (My.Bj KX G (by intros; rfl) ?a12 ?l12 ?c12 ?k12) (My.BY KX G (by intros; rfl) ?a13 ?l13 ?c13 ?k13) (My.Ep KX G (by intros; rfl) ?a14 ?l14 ?c14 ?k14) (My.Ep KX G (by intros; rfl) ?a15 ?l15 ?c15 ?k15) (My.Mr KX G (by intros; rfl) ?a16 ?l16 ?c16 ?k16) (My.BY KX G (by intros; rfl) ?a17 ?l17 ?c17 ?k17) (My.Mr KX G (by intros; rfl) ?a18 ?l18 ?c18 ?k18) (My.Ep KX G (by intros; rfl) ?a19 ?l19 ?c19 ?k19) (My.BY KX G (by intros; rfl) ?a20 ?l20 ?c20 ?k20) (My.BY KX G (by intros; rfl) ?a21 ?l21 ?c21 ?k21) (My.Ep KX G (by intros; rfl) ?a22 ?l22 ?c22 ?k22) (My.Bj KX G (by intros; rfl) ?a23 ?l23 ?c23 ?k23) (My.Bj KX G (by intros; rfl) ?a24 ?l24 ?c24 ?k24) (My.ML KX G (by intros; rfl) ?a25 ?l25 ?c25 ?k25) (My.Ep KX G (by intros; rfl) ?a26 ?l26 ?c26 ?k26) (My.BY KX G (by intros; rfl) ?a27 ?l27 ?c27 ?k27) (My.Ep KX G (by intros; rfl) ?a28 ?l28 ?c28 ?k28) ?a29 ?l29 ?c29 ?k29 ?z1 ?z2 ?z3 ?z4 ?z5 ?z6 ?z7 ?z8 ?z9 ?z10 ?w0
    (case a1 => k_is); (case l1 => k_is); (case c1 => k_is); (case k1 => k_is); (case a2 => k_is); (case l2 => k_is); (case c2 => k_is); (case k2 => k_is); (case a3 => k_is); (case l3 => k_is); (case c3 => k_is); (case k3 => k_is); (case a4 => k_is); (case l4 => k_is); (case c4 => k_is); (case k4 => k_is); (case a5 => k_is); (case l5 => k_is); (case c5 => k_is); (case k5 => k_is); (case a6 => k_is); (case l6 => k_is); (case c6 => k_is); (case k6 => k_is); (case a7 => k_is); (case l7 => k_is); (case c7 => k_is); (case k7 => k_is); (case a8 => k_is); (case l8 => k_is); (case c8 => k_is); (case k8 => k_is); (case a9 => k_is); (case l9 => k_is); (case c9 => k_is); (case k9 => k_is); (case a10 => k_is); (case l10 => k_is); (case c10 => k_is); (case k10 => k_is); (case a11 => k_is); (case l11 => k_is); (case c11 => k_is); (case k11 => k_is); (case a12 => k_is); (case l12 => k_is); (case c12 => k_is); (case k12 => k_is); (case a13 => k_is); (case l13 => k_is); (case c13 => k_is); (case k13 => k_is); (case a14 => k_is); (case l14 => k_is); (case c14 => k_is); (case k14 => k_is); (case a15 => k_is); (case l15 => k_is); (case c15 => k_is); (case k15 => k_is); (case a16 => k_is); (case l16 => k_is); (case c16 => k_is); (case k16 => k_is); (case a17 => k_is); (case l17 => k_is); (case c17 => k_is); (case k17 => k_is); (case a18 => k_is); (case l18 => k_is); (case c18 => k_is); (case k18 => k_is); (case a19 => k_is); (case l19 => k_is); (case c19 => k_is); (case k19 => k_is); (case a20 => k_is); (case l20 => k_is); (case c20 => k_is); (case k20 => k_is); (case a21 => k_is); (case l21 => k_is); (case c21 => k_is); (case k21 => k_is); (case a22 => k_is); (case l22 => k_is); (case c22 => k_is); (case k22 => k_is); (case a23 => k_is); (case l23 => k_is); (case c23 => k_is); (case k23 => k_is); (case a24 => k_is); (case l24 => k_is); (case c24 => k_is); (case k24 => k_is); (case a25 => k_is); (case l25 => k_is); (case c25 => k_is); (case k25 => k_is); (case a26 => k_is); (case l26 => k_is); (case c26 => k_is); (case k26 => k_is); (case a27 => k_is); (case l27 => k_is); (case c27 => k_is); (case k27 => k_is); (case a28 => k_is); (case l28 => k_is); (case c28 => k_is); (case k28 => k_is); (case a29 => k_is); (case l29 => k_is); (case c29 => k_is); (case k29 => k_is); (case z1 => k_is); (case z2 => k_is); (case z3 => k_is); (case z4 => k_is); (case z5 => k_is); (case z6 => k_is); (case z7 => k_is); (case z8 => k_is); (case z9 => k_is); (case z10 => k_is); (case w0 => k_is)
