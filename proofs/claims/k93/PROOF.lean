import PyProof.Rows.All
import Wide.All
import OpenK.AllK
import Wide.FinOn
import Lean
import PyProof.EqAt
import PyProof.EqKinds
import PyProof.TupleCall
import KE.KIntText
import PySem.Challenge.RW_plait_k93_moves_as_lines
set_option Elab.async false
set_option linter.all false
set_option maxRecDepth 100000
set_option maxHeartbeats 4000000
namespace L2
open PySem PySem.Spec PyProof.Rows
noncomputable abbrev Key:=Sum Int Str
noncomputable def Uj:Key->Value->Bool
 | .inl k,v=>Value.isInt k v
 | .inr x,v=>Value.isStrOf x v
noncomputable def Eb (w:World):Key->Int
 | .inl k=>hashInt k
 | .inr x=>hashStr w x
theorem XT:∀{k:Key}{v:Value},Uj k v=true->(∃i t,k=Sum.inl i/\v=Value.int i t)∨(∃x t,k=Sum.inr x/\v=Value.str x t)
 | .inl i,v,h=>by
  obtain⟨t,e⟩:=Value.isInt_shape (k:=i) (v:=v) h
  exact .inl ⟨i,t,rfl,e⟩
 | .inr x,v,h=>by
  obtain⟨t,e⟩:=Value.isStrOf_shape (x:=x) (v:=v) h
  exact .inr ⟨x,t,rfl,e⟩
theorem Ki (i:Int)(t:Tok):Uj (.inl i) (.int i t)=true:=by simp[Uj,Value.isInt]
theorem Qp (x:Str)(t:Tok):Uj (.inr x) (.str x t)=true:=by simp[Uj,Value.isStrOf]
theorem Bb (a b:Int):decide ((Sum.inl a:Key)=Sum.inl b)=(a==b):=by
 by_cases e:a=b
 ·subst e;simp
 ·have h:¬(Sum.inl a:Key)=Sum.inl b:=λq=>e (Sum.inl.inj q)
  rw[decide_eq_false h]
  exact(beq_eq_false_iff_ne.mpr e).symm
theorem DR (a b:Str):decide ((Sum.inr a:Key)=Sum.inr b)=decide (a=b):=by
 by_cases e:a=b
 ·subst e;simp
 ·have h:¬(Sum.inr a:Key)=Sum.inr b:=λq=>e (Sum.inr.inj q)
  rw[decide_eq_false h,decide_eq_false e]
theorem CW (a:Int)(b:Str):decide ((Sum.inl a:Key)=Sum.inr b)=false:=decide_eq_false (λq=>nomatch q)
theorem DZ (a:Str)(b:Int):decide ((Sum.inr a:Key)=Sum.inl b)=false:=decide_eq_false (λq=>nomatch q)
noncomputable def Yi (prog:Program)(w:World):PySem.KeyKind prog w Key where
 is:=Uj
 hash:=Eb w
 inj:=λv a b ha hb=>by
  rcases XT ha with⟨i,t,rfl,rfl⟩ | ⟨x,t,rfl,rfl⟩
  ·rcases XT hb with⟨j,u,rfl,e⟩ | ⟨y,u,rfl,e⟩
   ·injection e with e1 _;rw[e1]
   ·exact nomatch e
  ·rcases XT hb with⟨j,u,rfl,e⟩ | ⟨y,u,rfl,e⟩
   ·exact nomatch e
   ·injection e with e1 _;rw[e1]
 byValue:=λk v h=>by
  rcases XT h with⟨i,t,rfl,rfl⟩ | ⟨x,t,rfl,rfl⟩<;> rfl
 pyHash:=λhv h=>by
  rcases XT hv with⟨i,t,rfl,rfl⟩ | ⟨x,t,rfl,rfl⟩
  ·exact wpAny_pyHash_int h
  ·exact wpAny_pyHash_str h
 eqBool:=λhu hv h=>by
  rcases XT hu with⟨i,t,rfl,rfl⟩ | ⟨x,t,rfl,rfl⟩
  ·rcases XT hv with⟨j,u,rfl,rfl⟩ | ⟨y,u,rfl,rfl⟩
   ·rw[Bb] at h;exact wpAny_eqBool_int h
   ·rw[CW] at h;exact SeqAt.EqAt.int_str i t y u _ _ _ _ h
  ·rcases XT hv with⟨j,u,rfl,rfl⟩ | ⟨y,u,rfl,rfl⟩
   ·rw[DZ] at h;exact SeqAt.EqAt.str_int x t j u _ _ _ _ h
   ·rw[DR] at h;exact wpAny_eqBool_str h
 «strs»:=λk x t v h=>by
  rcases XT h with⟨i,u,rfl,e⟩ | ⟨y,u,rfl,e⟩
  ·exact nomatch e
  ·injection e with e1 _
   subst e1
   cases v<;> rfl
theorem Vk (prog:Program)(w:World)(i:Int)(t:Tok):(Yi prog w).is (.inl i) (.int i t)=true:=Ki i t
theorem VA (prog:Program)(w:World)(x:Str)(t:Tok):(Yi prog w).is (.inr x) (.str x t)=true:=Qp x t
inductive V where
 |non |bl (b:Bool) |int (i:Int) |str (x:Str) |byt (b:Array UInt8) |flt (b:UInt64) |ref (a:Addr) |ty (n:String)
 deriving DecidableEq
noncomputable def XV:V->Value->Prop
 | .non,u=>u=Value.none
 | .bl b,u=>u=Value.bool b
 | .int i,u=>∃ t,u=Value.int i t
 | .str x,u=>∃ t,u=Value.str x t
 | .byt b,u=>∃ t,u=Value.bytes b t
 | .flt b,u=>∃ t,u=Value.float b t
 | .ref a,u=>u=Value.ref a
 | .ty n,u=>u=Value.type n
noncomputable abbrev XJ:List V->List Value->Prop:=Paired XV
theorem XJ.length {xs:List V}{us:List Value}(r:XJ xs us):xs.length=us.length:=Paired.length r
theorem XJ.get:∀{xs:List V}{us:List Value}{i:Nat}{x:V},XJ xs us->xs[i]?=some x->∃u,us[i]?=some u/\XV x u
 |_,_,_,_, .nil,e=>by simp at e
 |_,_,0,_, .cons r _,e=>by simp at e;subst e;exact⟨_,rfl,r⟩
 |_,_,i+1,x, .cons _ t,e=>by
  obtain⟨u,h1,h2⟩:=XJ.get (i:=i) (x:=x) t (by simpa using e)
  exact⟨u,by simpa using h1,h2⟩
theorem XJ.set {x:V}{u:Value}(r:XV x u):∀{xs:List V}{us:List Value} (i:Nat),XJ xs us->XJ (xs.set i x) (us.set i u)
 |_,_,_, .nil=>.nil
 |_,_,0, .cons _ t=>.cons r t
 |_,_,i+1, .cons q t=>.cons q (XJ.set r i t)
theorem XJ.append:∀{xs ys:List V}{us ws:List Value},XJ xs us->XJ ys ws->XJ (xs++ys) (us++ws):=λp s=>by
 induction p with
 |nil=>exact s
 |cons r _ ih=>exact .cons r ih
theorem XJ.take:∀{xs:List V}{us:List Value} (n:Nat),XJ xs us->XJ (xs.take n) (us.take n)
 |_,_,0,_=>.nil
 |_,_,_+1, .nil=>.nil
 |_,_,n+1, .cons r t=>.cons r (XJ.take n t)
theorem XJ.drop:∀{xs:List V}{us:List Value} (n:Nat),XJ xs us->XJ (xs.drop n) (us.drop n)
 |_,_,0,r=>r
 |_,_,_+1, .nil=>.nil
 |_,_,n+1, .cons _ t=>XJ.drop n t
noncomputable def Uy:Option V->Option Value->Prop
 |some v,some u=>XV v u
 |none,none=>True
 |_,_=>False
noncomputable def KV {κ:Type}:List (κ×V)->List (κ×Value)->Prop:=Paired λ(p:κ×V) (q:κ×Value)=>p.1=q.1/\XV p.2 q.2
noncomputable def kV:Key->V
 | .inl i=>.int i
 | .inr x=>.str x
inductive HO where
 /-- a list -/
 |lst (xs:List V)
 /-- a tuple (never changes) -/
 |tup (xs:List V)
 /-- a dict whose keys are ints and texts; one whose keys are tuples of ints and texts (the empty one is both) -/
 |dK (kvs:List (Key×V)) |dT (kvs:List (List Key×V))
 /-- a set of ints: its members, its size -/
 |set (S:Int->Bool) (n:Nat)
 /-- an instance of the class at C, its dict at dx, its attributes -/
 |ins (C dx:Addr) (fs:List (Str×V))
 /-- the dict of the instance at x -/
 |own (x:Addr)
 /-- the dict of an exception -/
 |xd (fs:List (Str×V))
 /-- a bound method, f of x -/
 |met (f x:Addr)
 /-- a range object lo, lo + 1, .. below hi -/
 |rng (lo hi:Int)
 /-- a thing that is known to the object (the script; a dict while a loop walks it): read, never written while it is so -/
 |frz (o:Obj) (u:HO)
 /-- a code object's table -/
 |tbl (ps:Array Value)
 /-- any other thing, by what is true of its one object (a def of one's own: SetO a S n:=HO.ext λh=>..) -/
 |ext (φ:Heap->Prop)
noncomputable abbrev Hp:=Addr->Option HO
noncomputable def upd (H:Hp)(a:Addr)(o:HO):Hp:=λb=>if b=a then some o else H b
theorem XU {H:Hp}{a:Addr}{o:HO}:upd H a o a=some o:=by unfold upd;rw[if_pos rfl]
theorem Xr {H:Hp}{a b:Addr}{o:HO}(h:b≠a):upd H a o b=H b:=by unfold upd;rw[if_neg h]
theorem Xu {H:Hp}{a b:Addr}{o:HO}(h:H a=some o)(h':H b=none):a≠b:=by
 intro e;subst e;rw[h] at h';cases h'
noncomputable def ZM (h:Heap)(a:Addr)(items:Array Value):Prop:=∃ o,h.get? a=some o/\(o.cls= .type "tuple" /\o.dict=none)/\∃n,o.data= .seq items n
theorem ZM.t {h:Heap}{a:Addr}{items:Array Value}(x:ZM h a items):IsTup h a items:=let ⟨o,ho,c,r⟩:=x;⟨o,ho,c.1,r⟩
theorem ZM.new (h:Heap)(items:Array Value):ZM (h.push {cls:=.type "tuple",data:=.seq items}) h.objs.size items:=⟨_,Heap.get?_push_size _ rfl,⟨rfl,rfl⟩,_,rfl⟩
section
variable (P:Program)(w:World)
noncomputable def Yh (H:Hp)(h:Heap)(a:Addr):HO->Prop
 | .lst xs=>xs.length<=sizeLine/\∃(its:List Value) (n:Nat),XJ xs its/\h.get? a=some {cls:=.type "list",data:=.seq its.toArray n}
 | .tup xs=>xs.length<=sizeLine/\∃its:List Value,XJ xs its/\ZM h a its.toArray
 | .dK kvs=>kvs.length<=sizeLine/\(a==sysModules)=false/\∃vs,KV kvs vs/\h.DictOf (Yi P w) a vs
 | .dT kvs=>kvs.length<=sizeLine/\(a==sysModules)=false/\∃xs:List (List Key×Addr×Value),
   Paired (λ(p:List Key×V) (q:List Key×Addr×Value)=>p.1=q.1/\H q.2.1=some (.tup (p.1.map kV))/\XV p.2 q.2.2) kvs xs/\
   ∃o es ep,h.get? a=some o/\o.ExactDict/\o.data= .dict es ep/\es.toList=xs.map (entryOfKey (tupleKind (Yi P w)))/\(xs.map (·.1)).Nodup
 | .set S n=>h.SetOf (intKind P w) a S n
 | .ins C dx fs=>H dx=some (.own a)/\fs.length<=1000/\dx≠a/\h.get? a=some (PySem.W.instObj C dx)/\
   ∃mA,h.Ns1 dx mA/\(∀f,Uy (fs.lookup f) (mA f))/\PySem.Within mA (fs.map (·.1))
 | .own _=>∃ o,h.get? a=some o
 | .xd fs=>∃ mA,h.Ns1 a mA/\∀f,Uy (fs.lookup f) (mA f)
 | .rng lo hi=>∃ t u v,h.get? a=some {cls:=.type "range",data:=.fields #[.int lo t, .int hi u, .int 1 v]}
 | .frz o u=>h.get? a=some o/\Yh H h a u
 | .tbl ps=>h.get? a=some {cls:=.none,data:=.fields ps}
 | .met f x=>h.get? a=some (PySem.W.methodObj (.ref f) (.ref x))
 | .ext φ=>φ h/\(∃o,h.get? a=some o)/\∀h1 h2:Heap,φ h1->(∀o,h1.get? a=some o->h2.get? a=some o)->φ h2
noncomputable def HOk (H:Hp)(h:Heap):Prop:=∀ a o,H a=some o->Yh P w H h a o
end
section
variable {P:Program}{w:World}{H H':Hp}{h h':Heap}{a:Addr}{o:HO}
theorem Yh.lt (x:Yh P w H h a o):a<h.objs.size:=by
 cases o with
 |lst xs=>obtain⟨_,_,_,_,e⟩:=x;exact Heap.lt_size e
 |tup xs=>obtain⟨_,_,_,p⟩:=x;exact p.t.lt
 |dK kvs=>obtain⟨_,_,_,_,o,_,_,e,_⟩:=x;exact Heap.lt_size e
 |dT kvs=>obtain⟨_,_,_,_,o,_,_,e,_⟩:=x;exact Heap.lt_size e
 |set S n=>obtain⟨o,_,_,_,e,_⟩:=x;exact Heap.lt_size e
 |ins C dx fs=>obtain⟨_,_,_,e,_⟩:=x;exact Heap.lt_size e
 |own y=>obtain⟨_,e⟩:=x;exact Heap.lt_size e
 |xd fs=>obtain⟨_,⟨_,_,_,e,_⟩,_⟩:=x;exact Heap.lt_size e
 |rng lo hi=>obtain⟨_,_,_,e⟩:=x;exact Heap.lt_size e
 |frz ob u=>obtain⟨e,_⟩:=x;exact Heap.lt_size e
 |tbl ps=>exact Heap.lt_size (show h.get? a=some _ from x)
 |met f y=>exact Heap.lt_size (show h.get? a=some _ from x)
 |ext φ=>obtain⟨_,⟨_,e⟩,_⟩:=x;exact Heap.lt_size e
theorem Paired.mapP {α β:Type}{F G:α->β->Prop}:∀{l₁:List α}{l₂:List β},Paired F l₁ l₂->(∀a b,F a b->G a b)->Paired G l₁ l₂:=λp f=>by
 induction p with
 |nil=>exact .nil
 |cons r _ ih=>exact .cons (f _ _ r) ih
theorem Yh.stay (x:Yh P w H h a o)(k:∀b u,(b=a∨H b=some (.own a))->h.get? b=some u->h'.get? b=some u)
  (ho:∀b,H b=some (.own a)->H' b=some (.own a))(ht:∀b xs,H b=some (.tup xs)->H' b=some (.tup xs)):Yh P w H' h' a o:=by
 induction o with
 |lst xs=>obtain⟨z,its,n,r,e⟩:=x;exact⟨z,its,n,r,k _ _ (.inl rfl) e⟩
 |tup xs=>obtain⟨z,its,r,ob,e,c⟩:=x;exact⟨z,its,r,ob,k _ _ (.inl rfl) e,c⟩
 |dK kvs=>obtain⟨z,y,vs,r,ob,es,ep,e,c⟩:=x;exact⟨z,y,vs,r,ob,es,ep,k _ _ (.inl rfl) e,c⟩
 |dT kvs=>
  obtain⟨z,y,xs,r,ob,es,ep,e,c⟩:=x
  exact⟨z,y,xs,Paired.mapP r λp q z=>⟨z.1,ht _ _ z.2.1,z.2.2⟩,ob,es,ep,k _ _ (.inl rfl) e,c⟩
 |set S n=>obtain⟨ob,es,ep,t,e,c⟩:=x;exact⟨ob,es,ep,t,k _ _ (.inl rfl) e,c⟩
 |ins C dx fs=>
  obtain⟨d,z,ne,e,mA,⟨od,es,ep,e2,c⟩,r⟩:=x
  exact⟨ho _ d,z,ne,k _ _ (.inl rfl) e,mA,⟨od,es,ep,k _ _ (.inr d) e2,c⟩,r⟩
 |own y=>obtain⟨ob,e⟩:=x;exact⟨ob,k _ _ (.inl rfl) e⟩
 |xd fs=>obtain⟨mA,⟨od,es,ep,e,c⟩,r⟩:=x;exact⟨mA,⟨od,es,ep,k _ _ (.inl rfl) e,c⟩,r⟩
 |rng lo hi=>obtain⟨t,u,v,e⟩:=x;exact⟨t,u,v,k _ _ (.inl rfl) e⟩
 |frz ob u ih=>obtain⟨e,q⟩:=x;exact⟨k _ _ (.inl rfl) e,ih q⟩
 |tbl ps=>
  have e:h.get? a=some {cls:=.none,data:=.fields ps}:=x
  show h'.get? a=some {cls:=.none,data:=.fields ps}
  exact k a _ (.inl rfl) e
 |met f y=>
  have e:h.get? a=some (PySem.W.methodObj (.ref f) (.ref y)):=x
  show h'.get? a=some (PySem.W.methodObj (.ref f) (.ref y))
  exact k a _ (.inl rfl) e
 |ext φ=>obtain⟨p,⟨o,e⟩,st⟩:=x;exact⟨st _ _ p λo q=>k _ _ (.inl rfl) q,⟨o,k _ _ (.inl rfl) e⟩,st⟩
theorem HOk.lt (x:HOk P w H h)(e:H a=some o):a<h.objs.size:=(x a o e).lt
theorem HOk.fresh (x:HOk P w H h)(e:h.objs.size<=a):H a=none:=by
 cases q:H a with
 |none=>rfl
 |some u=>exact absurd (Nat.lt_of_lt_of_le (x.lt q) e) (Nat.lt_irrefl _)
theorem HOk.kept (x:HOk P w H h)(k:∀b u,h.get? b=some u->h'.get? b=some u):HOk P w H h':=λa o e=>
 (x a o e).stay (λb u _ q=>k b u q) (λ_ q=>q) λ_ _ q=>q
theorem HOk.laid (x:HOk P w H h)(k:∀b u,h.get? b=some u->h'.get? b=some u)(hp:h.objs.size<=a)(new:Yh P w (upd H a o) h' a o):HOk P w (upd H a o) h':=λb u e=>by
 have hn:=x.fresh hp
 by_cases hb:b=a
 ·subst hb;rw[XU] at e;cases e;exact new
 ·rw[Xr hb] at e
  exact(x b u e).stay (λc v _ q=>k c v q) (λc q=>by rw[Xr (Xu q hn)];exact q) λc xs q=>by rw[Xr (Xu q hn)];exact q
end
noncomputable def Rd (H:Hp)(a:Addr)(u:HO):Prop:=H a=some u∨∃o,H a=some (.frz o u)
theorem Rd.of {H:Hp}{a:Addr}{u:HO}(h:H a=some u):Rd H a u:=.inl h
theorem Rd.ok {P:Program}{w:World}{H:Hp}{h:Heap}{a:Addr}{u:HO}(r:Rd H a u)(x:HOk P w H h):Yh P w H h a u:=by
 rcases r with r | ⟨o,r⟩
 ·exact x a u r
 ·obtain⟨_,q⟩:=x a _ r
  exact q
noncomputable def Mut:Option HO->Prop
 |some (.lst _)=>True
 |some (.dK _)=>True
 |some (.dT _)=>True
 |some (.set _ _)=>True
 |some (.ins _ _ _)=>True
 |some (.ext _)=>True
 |_=>False
section
variable {P:Program}{w:World}{H:Hp}{h h':Heap}{x e:Addr}{o':HO}
theorem HOk.write (ok:HOk P w H h)(mu:Mut (H x))(he:e=x∨H e=some (.own x))(k:∀b u,b≠e->h.get? b=some u->h'.get? b=some u)(heo:∃u,h'.get? e=some u)
  (new:Yh P w (upd H x o') h' x o'):HOk P w (upd H x o') h':=λb u q=>by
 have nown:∀c y,H c=some (.own y)->c≠x:=λc y r z=>by subst z;rw[r] at mu;exact mu
 have ntup:∀c xs,H c=some (.tup xs)->c≠x:=λc xs r z=>by subst z;rw[r] at mu;exact mu
 by_cases hb:b=x
 ·subst hb;rw[XU] at q;cases q;exact new
 ·rw[Xr hb] at q
  by_cases hbe:b=e
  ·have q':H b=some (.own x):=by
    rcases he with z |z
    ·exact absurd (hbe.trans z) hb
    ·rw[hbe];exact z
   rw[q] at q';cases q'
   obtain⟨v,hv⟩:=heo
   exact⟨v,by rw[hbe];exact hv⟩
  ·refine(ok b u q).stay (λc v hc r=>k c v ?_ r) (λc r=>by rw[Xr (nown c b r)];exact r) λc xs r=>by rw[Xr (ntup c xs r)];exact r
   rcases hc with rfl |hc
   ·exact hbe
   ·rintro rfl
    rcases he with z |z
    ·exact nown c b hc z
    ·rw[hc] at z;cases z;exact hb rfl
end
structure Un (fs ex:List Addr)(H H':Hp)(h h':Heap):Prop where
 keep:∀b o,h.get? b=some o->H b=none->b∉fs->b∉ex->h'.get? b=some o
 slot:∀b o,h.get? b=some o->H b=none->b∈fs->b∉ex->∃sl,h'.get? b=some {o with slots:=sl}
 free:∀b o,h.get? b=some o->H b=none->b∉ex->H' b=none
 there:∀b o,h.get? b=some o->b∉ex->∃o',h'.get? b=some o'
 tups:∀b xs,H b=some (.tup xs)->H' b=some (.tup xs)
 frzs:∀b o u,H b=some (.frz o u)->H' b=some (.frz o u)
 tbls:∀b ps,H b=some (.tbl ps)->∃more,H' b=some (.tbl (ps++more))
section
variable {fs fs' ex ex':List Addr}{H H1 H2:Hp}{h h1 h2 h':Heap}{a x e:Addr}{o:HO}
theorem Un.any (u:Un fs ex H H1 h h1){b:Addr}{ob:Obj}(q:h.get? b=some ob)(n:H b=none)(hx:b∉ex):∃sl,h1.get? b=some {ob with slots:=sl}:=by
 by_cases hb:b∈fs
 ·exact u.slot b ob q n hb hx
 ·exact⟨ob.slots,u.keep b ob q n hb hx⟩
theorem Un.trans (a:Un fs ex H H1 h h1)(b:Un fs ex H1 H2 h1 h2):Un fs ex H H2 h h2 where
 keep:=λc ob q n hc hx=>b.keep c ob (a.keep c ob q n hc hx) (a.free c ob q n hx) hc hx
 slot:=λc ob q n hc hx=>by
  obtain⟨sl,e1⟩:=a.slot c ob q n hc hx
  obtain⟨sl',e2⟩:=b.slot c _ e1 (a.free c ob q n hx) hc hx
  exact⟨sl',e2⟩
 free:=λc ob q n hx=>by
  obtain⟨o',e1⟩:=a.there c ob q hx
  exact b.free c o' e1 (a.free c ob q n hx) hx
 there:=λc ob q hx=>by
  obtain⟨o',e1⟩:=a.there c ob q hx
  exact b.there c o' e1 hx
 tups:=λc xs q=>b.tups c xs (a.tups c xs q)
 frzs:=λc ob xs q=>b.frzs c ob xs (a.frzs c ob xs q)
 tbls:=λc ps q=>by
  obtain⟨m1,e1⟩:=a.tbls c ps q
  obtain⟨m2,e2⟩:=b.tbls c _ e1
  exact⟨m1++m2,by rw[e2,Array.append_assoc]⟩
theorem Un.kept (k:∀b u,h.get? b=some u->h'.get? b=some u):Un fs ex H H h h':=
 ⟨λb ob q _ _ _=>k b ob q,λb ob q _ _ _=>⟨ob.slots,k b ob q⟩,λ_ _ _ n _=>n,λb ob q _=>⟨ob,k b ob q⟩,λ_ _ q=>q,λ_ _ _ q=>q,λ_ ps q=>⟨#[],by rw[q];simp⟩⟩
theorem Un.refl:Un fs ex H H h h:=Un.kept λ_ _ q=>q
theorem Un.laid (k:∀b u,h.get? b=some u->h'.get? b=some u)(hp:h.objs.size<=a)(hn:H a=none):Un fs ex H (upd H a o) h h' where
 keep:=λb u q _ _ _=>k b u q
 slot:=λb u q _ _ _=>⟨u.slots,k b u q⟩
 free:=λb u q n _=>by rw[Xr (Nat.ne_of_lt (Nat.lt_of_lt_of_le (Heap.lt_size q) hp))];exact n
 there:=λb u q _=>⟨u,k b u q⟩
 tups:=λb xs q=>by rw[Xr (Xu q hn)];exact q
 frzs:=λb u xs q=>by rw[Xr (Xu q hn)];exact q
 tbls:=λb ps q=>⟨#[],by rw[Xr (Xu q hn),q];simp⟩
theorem Un.write (mu:Mut (H x))(he:e=x∨H e=some (.own x))(k:∀b u,b≠e->h.get? b=some u->h'.get? b=some u)(heo:∃u,h'.get? e=some u):Un fs ex H (upd H x o) h h':=by
 have hx:∀b,H b=none->b≠x:=λb n z=>by subst z;rw[n] at mu;exact mu
 have hb:∀b,H b=none->b≠e:=λb n z=>by
  subst z
  rcases he with r |r
  ·exact hx b n r
  ·rw[n] at r;cases r
 have hm:∀b u,H b=some u->¬Mut (some u)->b≠x:=λb u q nm z=>by subst z;rw[q] at mu;exact nm mu
 refine⟨λb u q n _ _=>k b u (hb b n) q,λb u q n _ _=>⟨u.slots,k b u (hb b n) q⟩,λb u q n _=>by rw[Xr (hx b n)];exact n,λb u q _=>?_,
  λb xs q=>by rw[Xr (hm b _ q λz=>z)];exact q,λb u xs q=>by rw[Xr (hm b _ q λz=>z)];exact q,λb ps q=>⟨#[],by rw[Xr (hm b _ q λz=>z),q];simp⟩⟩
 by_cases hbe:b=e
 ·subst hbe;exact heo
 ·exact⟨u,k b u hbe q⟩
theorem Un.mono (u:Un fs ex H H1 h h1)(hs:∀b∈fs,b∈fs')(hx:∀b∈ex,b∈ex'):Un fs' ex' H H1 h h1:=
 ⟨λb ob q n hb he=>u.keep b ob q n (λz=>hb (hs b z)) λz=>he (hx b z),λ_ _ q n _ he=>u.any q n λz=>he (hx _ z),λb ob q n he=>u.free b ob q n λz=>he (hx b z),λb ob q he=>u.there b ob q λz=>he (hx b z),u.tups,u.frzs,u.tbls⟩
end
noncomputable def trk (h:Heap)(H:Hp):List Addr:=(List.range h.objs.size).filter λa=>(H a).isSome
noncomputable def K6 (h:Heap)(H:Hp):Heap:=PySem.W.hideAll h (trk h H)
theorem UD (h:Heap)(H:Hp):(K6 h H).objs.size=h.objs.size:=PySem.W.hideAll_size _ _
theorem V3 {h:Heap}{H:Hp}{b:Addr}{o:Obj}(e:h.get? b=some o)(n:H b=none):(K6 h H).get? b=some o:=
 PySem.W.hideAll_get _ e λhm=>by
  have q:(H b).isSome=true:=(List.mem_filter.mp hm).2
  rw[n] at q;simp at q
theorem UK {h:Heap}{H:Hp}{b:Addr}{o:Obj}(e:(K6 h H).get? b=some o):h.get? b=some o/\H b=none:=by
 have e':h.get? b=some o:=PySem.W.of_hideAll (trk h H) e
 refine⟨e',?_⟩
 cases q:H b with
 |none=>rfl
 |some x=>
  have hm:b∈trk h H:=List.mem_filter.mpr ⟨List.mem_range.mpr (Heap.lt_size e'),by simp[q]⟩
  have z:(K6 h H).get? b=none:=PySem.W.hideAll_none (trk h H) hm
  rw[z] at e;cases e
noncomputable def Dl (g h:Heap)(L:Addr):List (Addr×Obj):=(List.range h.objs.size).filterMap λa=>if a=L∨(g.get? a).isSome=true then none else(h.get? a).map λo=>(a,o)
noncomputable def YR (g h:Heap)(L d:Addr):List (Addr×Obj):=(Dl g h L).filter λp=>decide (p.1≠d)
structure Mod (K:PySem.W.Frag)(mg:Str->Option Value)(base:Heap):Prop where
 kin:K.In base
 glob:base.Ns mainGlobals mg
 blt:∃mb,base.Ns builtinsNs mb/\∀x:Str,x≠ "__name__" ->mb x=bootBuiltins x
 nolimit:base.NoLimit
structure Cx where
 prog:Program
 w:World
 K:PySem.W.Frag
 mg:Str->Option Value
 base:Heap
 A:Around
 N:List Str
 s₀:Shared
 H₀:Hp
 env:Env
 outer:List Env
 stack:List Env
 ex:List Addr
 fn:Str->Bool
 calm:Bool
 pn:List (Addr×Obj)
 xe:Value->Shared->Prop
noncomputable def frs (l:List Env):List Addr:=l.filterMap (·.frame)
noncomputable abbrev Cx.fs (X:Cx):List Addr:=frs X.outer
noncomputable def Vis (sc:Scope)(x:Str):Prop:=sc.names.lookup x=some .local∨sc.names.lookup x=some .cell∨sc.names.lookup x=some .free
noncomputable def Loc (sc:Scope)(x:Str):Prop:=sc.names.lookup x=some .local∨sc.names.lookup x=some .cell
noncomputable def Ed (env:Env)(h:Heap)(m:Str->Option Value)(x:Str)(u:Value):Prop:=
 (env.kindOf x=some .local/\m x=some u)∨((env.kindOf x=some .cell∨env.kindOf x=some .free)/\∃c,env.cells.lookup x=some c/\h.IsCell c (some u))
structure Cx.Ok (X:Cx):Prop where
 mod:Mod X.K X.mg X.base
 kind:X.env.scope.kind= .function
 glob:X.env.globals=mainGlobals
 blt:X.env.builtins=builtinsNs
 above:X.s₀.heap.objs.size<=X.env.locals
 inj:∀x y c,X.env.cells.lookup x=some c->X.env.cells.lookup y=some c->x=y
 has:∀x,(X.env.kindOf x=some .cell∨X.env.kindOf x=some .free)->∃c,X.env.cells.lookup x=some c
 cab:∀x c,X.fn x=true->X.env.cells.lookup x=some c->X.s₀.heap.objs.size<=c
 hd:X.calm=true->X.A.handled=none
 frames:X.A.frames=some X.stack
 stk:X.stack=X.outer∨(X.stack=X.env::X.outer/\X.env.frame=some X.env.locals)
 exf:∀b∈X.ex,b≠X.env.locals/\∀x c,X.env.cells.lookup x=some c->c≠b
 bs:∀b o,X.base.get? b=some o->X.s₀.heap.get? b=some o/\X.H₀ b=none
 bsz:X.base.objs.size<=X.s₀.heap.objs.size
 noex:∀b o,X.base.get? b=some o->b∉X.ex
 exfs:∀b∈X.ex,b∉X.fs
 funs:X.s₀.heap.FunFrames X.base X.outer
 frf:∀b∈X.fs,X.H₀ b=none
structure Inv (X:Cx)(pins:List (Addr×Obj))(σ:List (Option V))(H:Hp)(s:Shared):Prop where
 ok:X.Ok
 os:s.os=X.s₀.os
 bare:AllBare s.gens
 base:Un X.fs X.ex X.H₀ H X.s₀.heap s.heap
 loc:∃m,s.heap.Ns X.env.locals m/\∀(i:Nat) (x:Str) (v:V),X.N[i]?=some x->σ[i]?=some (some v)->Vis X.env.scope x->∃u,XV v u/\Ed X.env s.heap m x u
 cell:∀x c,X.env.cells.lookup x=some c->∃v,s.heap.IsCell c v
 free:H X.env.locals=none
 freeC:∀x c,X.env.cells.lookup x=some c->H c=none
 pin:∀p∈X.pn++pins,s.heap.get? p.1=some p.2/\H p.1=none/\p.1≠X.env.locals/\p.1∉X.fs/\∀v,p.2.data≠ .cell v
 hok:HOk X.prog X.w H s.heap
 len:σ.length=X.N.length
section
variable {X:Cx}{pins:List (Addr×Obj)}{σ:List (Option V)}{H H':Hp}{s:Shared}{h':Heap}
theorem Cx.Ok.nofr (ok:X.Ok){b:Addr}{o:Obj}(e:X.base.get? b=some o):b∉X.fs:=λhb=>by
 have:=(ok.funs.mem hb).1
 rw[e] at this;cases this
theorem Inv.bs (I:Inv X pins σ H s):∀b o,X.base.get? b=some o->s.heap.get? b=some o/\H b=none:=λb o e=>
 ⟨I.base.keep b o (I.ok.bs b o e).1 (I.ok.bs b o e).2 (I.ok.nofr e) (I.ok.noex b o e),I.base.free b o (I.ok.bs b o e).1 (I.ok.bs b o e).2 (I.ok.noex b o e)⟩
theorem Inv.bk (I:Inv X pins σ H s):∀b o,X.base.get? b=some o->s.heap.get? b=some o:=λb o e=>(I.bs b o e).1
theorem Inv.mod (I:Inv X pins σ H s):Mod X.K X.mg X.base:=I.ok.mod
theorem Inv.kIn (I:Inv X pins σ H s):X.K.In s.heap:=I.ok.mod.kin.keeps I.bk
theorem Inv.nolimit (I:Inv X pins σ H s):s.heap.NoLimit:=I.ok.mod.nolimit.keeps I.bk
theorem Inv.fr (I:Inv X pins σ H s):∃m,Fr X.base X.env.locals s.heap m:=
 let ⟨m,hn,_⟩:=I.loc
 ⟨m,hn,I.bk,Nat.le_trans I.ok.bsz I.ok.above⟩
theorem Inv.lt (I:Inv X pins σ H s):X.env.locals<s.heap.objs.size:=let ⟨_,hn,_⟩:=I.loc;hn.lt
theorem Inv.sz (I:Inv X pins σ H s):X.s₀.heap.objs.size<=s.heap.objs.size:=Nat.le_trans I.ok.above (Nat.le_of_lt I.lt)
theorem Inv.nofs (I:Inv X pins σ H s){a:Addr}(h:s.heap.objs.size<=a):a∉X.fs:=λhb=>by
 obtain⟨_,o,ho,_⟩:=I.ok.funs.mem hb
 exact absurd (Nat.lt_of_lt_of_le (Heap.lt_size ho) (Nat.le_trans I.sz h)) (Nat.lt_irrefl _)
theorem Inv.cne (I:Inv X pins σ H s):∀x c,X.env.cells.lookup x=some c->c≠X.env.locals:=λx c e z=>by
 obtain⟨v,o,ho,hd⟩:=I.cell x c e
 obtain⟨m,⟨o',es,ep,ho',hd',_⟩,_⟩:=I.loc
 rw[z,ho'] at ho;cases ho;rw[hd'] at hd;cases hd
theorem Inv.funs (I:Inv X pins σ H s):s.heap.FunFrames X.base X.outer:=by
 have all:∀(l:List Env),(∀b∈frs l,b∈X.fs)->X.s₀.heap.FunFrames X.base l->s.heap.FunFrames X.base l:=by
  intro l
  induction l with
  |nil=>intro _ _;trivial
  |cons env r ih=>
   intro hs hl
   obtain⟨hk,⟨L,o,hf,hn,ho,hd⟩,hr⟩:=hl
   have hL:L∈X.fs:=hs L (by unfold frs;rw[List.filterMap_cons,hf];exact List.mem_cons_self)
   obtain⟨sl,e⟩:=I.base.slot L o ho (I.ok.frf L hL) hL λz=>I.ok.exfs L z hL
   exact⟨hk,⟨L,_,hf,hn,e,hd⟩,ih (λb hb=>hs b (by unfold frs;rw[List.filterMap_cons,hf];exact List.mem_cons_of_mem _ hb)) hr⟩
 exact all X.outer (λ_ hb=>hb) I.ok.funs
theorem Inv.stack (I:Inv X pins σ H s):s.heap.FunFrames X.base X.stack:=by
 rcases I.ok.stk with e | ⟨e,hf⟩
 ·rw[e];exact I.funs
 ·rw[e]
  obtain⟨m,hn,_⟩:=I.loc
  refine .cons (by rw[I.ok.kind];decide) hf hn ?_ I.funs
  exact Heap.get?_none_of_le (Nat.le_trans I.ok.bsz I.ok.above)
theorem Inv.stkSub (I:Inv X pins σ H s):∀b∈frs X.stack,b∈X.env.locals::X.fs:=λb hb=>by
 rcases I.ok.stk with e | ⟨e,hf⟩
 ·rw[e] at hb;exact List.mem_cons_of_mem _ hb
 ·rw[e] at hb
  unfold frs at hb
  rw[List.filterMap_cons,hf] at hb
  exact hb
theorem Inv.stkFree (I:Inv X pins σ H s):∀b∈frs X.stack,H b=none:=λb hb=>by
 rcases List.mem_cons.mp (I.stkSub b hb) with e |hb
 ·rw[e];exact I.free
 ·obtain⟨_,o,ho,_⟩:=I.ok.funs.mem hb
  exact I.base.free b o ho (I.ok.frf b hb) λz=>I.ok.exfs b z hb
theorem Inv.step {g':Array GenState}{t':Nat}{d':Drawn}{ch:List Addr}(I:Inv X pins σ H s)
  (hch:∀b∈ch,(b∈X.ex∨X.s₀.heap.objs.size<=b)/\b≠X.env.locals/\(∀x c,X.env.cells.lookup x=some c->c≠b)/\∀p∈X.pn++pins,p.1≠b)
  (keep:∀b o,b≠X.env.locals->b∉X.fs->b∉ch->s.heap.get? b=some o->H b=none->h'.get? b=some o)
  (slot:∀b o,b≠X.env.locals->b∈X.fs->b∉ch->s.heap.get? b=some o->H b=none->∃sl,h'.get? b=some {o with slots:=sl})(free:∀b o,b∉ch->s.heap.get? b=some o->H b=none->H' b=none)
  (there:∀b o,b∉ch->s.heap.get? b=some o->∃o',h'.get? b=some o')
  (tups:∀b xs,H b=some (.tup xs)->H' b=some (.tup xs))(frzs:∀b o u,H b=some (.frz o u)->H' b=some (.frz o u))(tbls:∀b ps,H b=some (.tbl ps)->∃more,H' b=some (.tbl (ps++more)))
  (ns:∀m,s.heap.Ns X.env.locals m->h'.Ns X.env.locals m)(hok:HOk X.prog X.w H' h')(hg:AllBare g'):
  Inv X pins σ H' {s with heap:=h',gens:=g',drawn:=d',toks:=t'}:=by
 have neL:∀b o,X.s₀.heap.get? b=some o->b≠X.env.locals:=λb o e=>Nat.ne_of_lt (Nat.lt_of_lt_of_le (Heap.lt_size e) I.ok.above)
 have neC:∀b o,X.s₀.heap.get? b=some o->b∉X.ex->b∉ch:=λb o e hx hb=>by
  rcases(hch b hb).1 with z |z
  ·exact hx z
  ·exact absurd (Nat.lt_of_lt_of_le (Heap.lt_size e) z) (Nat.lt_irrefl _)
 have cellK:∀x c,X.env.cells.lookup x=some c->∀v,s.heap.IsCell c v->h'.IsCell c v:=λx c e v ⟨o,ho,hd⟩=>by
  have nch:c∉ch:=λz=>(hch c z).2.2.1 x c e rfl
  by_cases hc:c∈X.fs
  ·obtain⟨sl,q⟩:=slot c o (I.cne x c e) hc nch ho (I.freeC x c e)
   exact⟨_,q,hd⟩
  ·exact⟨o,keep c o (I.cne x c e) hc nch ho (I.freeC x c e),hd⟩
 refine⟨I.ok,I.os,hg,⟨λb o e n hb hx=>?_,λb o e n hb hx=>?_,λb o e n hx=>?_,λb o e hx=>?_,λb xs e=>tups b xs (I.base.tups b xs e),λb o xs e=>frzs b o xs (I.base.frzs b o xs e),λb ps e=>?_⟩,?_,λx c e=>?_,?_,λx c e=>?_,λp hp=>?_,hok,I.len⟩
 ·exact keep b o (neL b o e) hb (neC b o e hx) (I.base.keep b o e n hb hx) (I.base.free b o e n hx)
 ·obtain⟨sl,e1⟩:=I.base.slot b o e n hb hx
  obtain⟨sl',e2⟩:=slot b _ (neL b o e) hb (neC b o e hx) e1 (I.base.free b o e n hx)
  exact⟨sl',e2⟩
 ·obtain⟨o',e1⟩:=I.base.there b o e hx
  exact free b o' (neC b o e hx) e1 (I.base.free b o e n hx)
 ·obtain⟨o',e1⟩:=I.base.there b o e hx
  exact there b o' (neC b o e hx) e1
 ·obtain⟨m1,e1⟩:=I.base.tbls b ps e
  obtain⟨m2,e2⟩:=tbls b _ e1
  exact⟨m1++m2,by rw[e2,Array.append_assoc]⟩
 ·obtain⟨m,hn,hl⟩:=I.loc
  refine⟨m,ns m hn,λi x v e1 e2 e3=>?_⟩
  obtain⟨u,r,l⟩:=hl i x v e1 e2 e3
  refine⟨u,r,?_⟩
  rcases l with l | ⟨k,c,e,z⟩
  ·exact .inl l
  ·exact .inr ⟨k,c,e,cellK x c e _ z⟩
 ·obtain⟨v,z⟩:=I.cell x c e
  exact⟨v,cellK x c e v z⟩
 ·obtain⟨m,⟨o,_,_,ho,_⟩,_⟩:=I.loc
  exact free _ o (λz=>(hch _ z).2.1 rfl) ho I.free
 ·obtain⟨v,o,ho,hd⟩:=I.cell x c e
  exact free c o (λz=>(hch c z).2.2.1 x c e rfl) ho (I.freeC x c e)
 ·obtain⟨e,n,ne,nf,d⟩:=I.pin p hp
  have nch:p.1∉ch:=λz=>(hch p.1 z).2.2.2 p hp rfl
  exact⟨keep p.1 p.2 ne nf nch e n,free p.1 p.2 nch e n,ne,nf,d⟩
theorem Inv.un {t':Nat}(I:Inv X pins σ H s)(u:Un X.fs [] H H' s.heap h')(hok:HOk X.prog X.w H' h'):Inv X pins σ H' {s with heap:=h',toks:=t'}:=by
 obtain⟨m,⟨o,es,ep,ho,r⟩,_⟩:=id I.loc
 obtain⟨sl,hL⟩:=u.any ho I.free (by simp)
 exact I.step (g':=s.gens) (d':=s.drawn) (ch:=[]) (λ_ z=>nomatch z) (λb o _ hb _ e n=>u.keep b o e n hb (by simp)) (λb o _ hb _ e n=>u.slot b o e n hb (by simp)) (λb o _ e n=>u.free b o e n (by simp)) (λb o _ e=>u.there b o e (by simp)) u.tups u.frzs u.tbls (λm' hm=>by
  obtain⟨o',es',ep',ho',r'⟩:=hm
  rw[ho] at ho';cases ho'
  exact⟨_,es',ep',hL,r'⟩) hok I.bare
theorem Inv.call {g':Array GenState}{t':Nat}{d':Drawn}{ch:List Addr}(I:Inv X pins σ H s)(u:Un (frs X.stack) ch H H' s.heap h')(hok:HOk X.prog X.w H' h')(hg:AllBare g')
  (hch:∀b∈ch,(b∈X.ex∨X.s₀.heap.objs.size<=b)/\b≠X.env.locals/\(∀x c,X.env.cells.lookup x=some c->c≠b)/\∀p∈X.pn++pins,p.1≠b):
  Inv X pins σ H' {s with heap:=h',gens:=g',drawn:=d',toks:=t'}:=by
 obtain⟨m,⟨o,es,ep,ho,r⟩,_⟩:=id I.loc
 obtain⟨sl,hL⟩:=u.any ho I.free λz=>(hch _ z).2.1 rfl
 exact I.step (ch:=ch) hch (λb o hL hb hc e n=>u.keep b o e n (λz=>(List.mem_cons.mp (I.stkSub b z)).elim hL hb) hc) (λb o _ _ hc e n=>u.any e n hc) (λb o hc e n=>u.free b o e n hc) (λb o hc e=>u.there b o e hc) u.tups u.frzs u.tbls (λm' hm=>by
  obtain⟨o',es',ep',ho',r'⟩:=hm
  rw[ho] at ho';cases ho'
  exact⟨_,es',ep',hL,r'⟩) hok hg
theorem Inv.turned {t':Nat}{it:Addr}(I:Inv X pins σ H s)(k:∀b o,b≠it->s.heap.get? b=some o->h'.get? b=some o)(hn:H it=none)(hL:it≠X.env.locals)
  (h1:it∈X.ex∨X.s₀.heap.objs.size<=it)(h2:∀x c,X.env.cells.lookup x=some c->c≠it)(h3:∀p∈X.pn++pins,p.1≠it):Inv X pins σ H {s with heap:=h',toks:=t'}:=by
 have nit:∀b u,H b=some u->b≠it:=λb u e z=>by rw[z,hn] at e;cases e
 refine I.step (g':=s.gens) (d':=s.drawn) (ch:=[it]) (λb hb=>?_) (λb o _ _ hc e _=>k b o (λz=>hc (by simp[z])) e) (λb o _ _ hc e _=>⟨o.slots,k b o (λz=>hc (by simp[z])) e⟩) (λ_ _ _ _ n=>n)
  (λb o hc e=>⟨o,k b o (λz=>hc (by simp[z])) e⟩) (λ_ _ e=>e) (λ_ _ _ e=>e) (λb ps e=>⟨#[],by rw[e];simp⟩) (λm hm=>?_) (λb u e=>?_) I.bare
 ·have e:b=it:=by simpa using hb
  subst e
  exact⟨h1,hL,h2,h3⟩
 ·obtain⟨o,es,ep,ho,r⟩:=hm
  exact⟨o,es,ep,k _ o (Ne.symm hL) ho,r⟩
 ·refine(I.hok b u e).stay (λc v hc q=>k c v ?_ q) (λ_ q=>q) λ_ _ q=>q
  rcases hc with z |z
  ·rw[z];exact nit b u e
  ·exact nit c _ z
theorem Inv.tok (I:Inv X pins σ H s)(t:Nat):Inv X pins σ H {s with toks:=t}:=I.un (h':=s.heap) (t':=t) Un.refl I.hok
theorem Inv.kept {t':Nat}(I:Inv X pins σ H s)(k:∀b u,s.heap.get? b=some u->h'.get? b=some u):Inv X pins σ H {s with heap:=h',toks:=t'}:=I.un (Un.kept k) (I.hok.kept k)
theorem Inv.laid {a:Addr}{o:HO}{t':Nat}(I:Inv X pins σ H s)(k:∀b u,s.heap.get? b=some u->h'.get? b=some u)(hp:s.heap.objs.size<=a)(new:Yh X.prog X.w (upd H a o) h' a o):
  Inv X pins σ (upd H a o) {s with heap:=h',toks:=t'}:=I.un (Un.laid k hp (I.hok.fresh hp)) (I.hok.laid k hp new)
theorem Inv.write {x e:Addr}{o:HO}{t':Nat}(I:Inv X pins σ H s)(mu:Mut (H x))(he:e=x∨H e=some (.own x))(k:∀b u,b≠e->s.heap.get? b=some u->h'.get? b=some u)(heo:∃u,h'.get? e=some u)
  (new:Yh X.prog X.w (upd H x o) h' x o):Inv X pins σ (upd H x o) {s with heap:=h',toks:=t'}:=I.un (Un.write mu he k heo) (I.hok.write mu he k heo new)
theorem Inv.weak {σ':List (Option V)}(I:Inv X pins σ H s)(hl:σ'.length=σ.length)(w:∀(i:Nat) v,σ'[i]?=some (some v)->σ[i]?=some (some v)):Inv X pins σ' H s:=
 ⟨I.ok,I.os,I.bare,I.base,let ⟨m,hn,hl'⟩:=I.loc;⟨m,hn,λi x v e1 e2 e3=>hl' i x v e1 (w i v e2) e3⟩,I.cell,I.free,I.freeC,I.pin,I.hok,hl.trans I.len⟩
theorem Inv.pins_of {pins':List (Addr×Obj)}(I:Inv X pins σ H s)(h:∀p∈pins',s.heap.get? p.1=some p.2/\H p.1=none/\p.1≠X.env.locals/\p.1∉X.fs/\∀v,p.2.data≠ .cell v):Inv X pins' σ H s:=
 ⟨I.ok,I.os,I.bare,I.base,I.loc,I.cell,I.free,I.freeC,λp hp=>(List.mem_append.mp hp).elim (λz=>I.pin p (List.mem_append_left _ z)) (h p),I.hok,I.len⟩
theorem VD {N:List Str}(hN:N.Nodup){i j:Nat}{x:Str}(a:N[i]?=some x)(b:N[j]?=some x):i=j:=by
 obtain⟨h1,e1⟩:=List.getElem?_eq_some_iff.mp a
 obtain⟨h2,e2⟩:=List.getElem?_eq_some_iff.mp b
 exact(List.getElem_inj hN).mp (e1.trans e2.symm)
theorem Ql {M:Model}{A:Around}{E:Value->Shared->Prop}{i:Nat}{x:Str}{v:V}{u:Value}{Q:Unit->Shared->Prop}(I:Inv X pins σ H s)(hN:X.N.Nodup)(hi:X.N[i]?=some x)(hx:Loc X.env.scope x)(r:XV v u)
  (h:∀s',Inv X pins (σ.set i (some v)) H s'->(∃a,Heap.SameBut a s.heap s'.heap/\(a=X.env.locals∨X.env.cells.lookup x=some a))->Q () s')(hf:X.fn x=true∨X.env.scope.names.lookup x=some .local:=by first |exact .inl rfl |exact .inr rfl |assumption):wpAny M A (storeName X.env x u) Q E s:=by
 obtain⟨m,hn,hl⟩:=id I.loc
 have hcls:(X.env.scope.kind== .class || (X.env.scope.kind== .module&&X.env.locals !=X.env.globals))=false:=by rw[I.ok.kind];rfl
 have hiσ:i<σ.length:=by rw[I.len];exact(List.getElem?_eq_some_iff.mp hi).1
 have cne:=I.cne
 have tracked:∀{a:Addr}{h':Heap},(∃o,s.heap.get? a=some o/\H a=none)->Heap.SameBut a s.heap h'->HOk X.prog X.w H h':=fun {a h'} ha hs b ob e=>by
  obtain⟨_,_,hfree⟩:=ha
  refine(I.hok b ob e).stay (λc w' hc q=>(hs.2 c ?_).trans q) (λ_ q=>q) λ_ _ q=>q
  rintro rfl
  rcases hc with rfl |hc
  ·rw[hfree] at e;cases e
  ·rw[hfree] at hc;cases hc
 rcases hx with hk |hk
 ·refine wpAny_storeName_local hk hn (λh' hn' hs=>?_) hcls
  obtain⟨oL,_,_,hoL,_⟩:=id hn
  refine h _ ⟨I.ok,I.os,I.bare,⟨λb o e n hb hx=>?_,λb o e n hb hx=>?_,I.base.free,λb o e hx=>?_,I.base.tups,I.base.frzs,I.base.tbls⟩,⟨_,hn',λj y v' e1 e2 e3=>?_⟩,λy c e=>?_,I.free,I.freeC,λp hp=>?_,tracked ⟨oL,hoL,I.free⟩ hs,by simpa using I.len⟩ ⟨_,hs, .inl rfl⟩
  ·exact(hs.2 b (Nat.ne_of_lt (Nat.lt_of_lt_of_le (Heap.lt_size e) I.ok.above))).trans (I.base.keep b o e n hb hx)
  ·obtain⟨sl,e1⟩:=I.base.slot b o e n hb hx
   exact⟨sl,(hs.2 b (Nat.ne_of_lt (Nat.lt_of_lt_of_le (Heap.lt_size e) I.ok.above))).trans e1⟩
  ·obtain⟨o',e1⟩:=I.base.there b o e hx
   exact⟨o',(hs.2 b (Nat.ne_of_lt (Nat.lt_of_lt_of_le (Heap.lt_size e) I.ok.above))).trans e1⟩
  ·by_cases hj:j=i
   ·subst hj
    rw[hi] at e1;cases e1
    rw[List.getElem?_set_self hiσ] at e2
    cases e2
    exact⟨u,r, .inl ⟨hk,by simp⟩⟩
   ·rw[List.getElem?_set_ne (Ne.symm hj)] at e2
    obtain⟨u',r',q⟩:=hl j y v' e1 e2 e3
    refine⟨u',r',?_⟩
    rcases q with⟨k,e⟩ | ⟨k,c,e,z⟩
    ·refine .inl ⟨k,?_⟩
     have:y≠x:=λe=>hj (VD hN e1 (e▸hi))
     simp[this,e]
    ·exact .inr ⟨k,c,e,z.sameBut hs (cne y c e)⟩
  ·obtain⟨w',z⟩:=I.cell y c e
   exact⟨w',z.sameBut hs (cne y c e)⟩
  ·obtain⟨e,n,ne,nf,d⟩:=I.pin p hp
   exact⟨(hs.2 p.1 ne).trans e,n,ne,nf,d⟩
 ·have hfn:X.fn x=true:=by
   rcases hf with z |z
   ·exact z
   ·rw[z] at hk;cases hk
  obtain⟨c,hc⟩:=I.ok.has x (.inl hk)
  obtain⟨w',z⟩:=I.cell x c hc
  refine wpAny_storeName_cell I.ok.kind hk hc z (λh' hc' hs=>?_)
  obtain⟨oc,hoc,hocd⟩:=id z
  refine h {s with heap:=h'} ⟨I.ok,I.os,I.bare,⟨λb o e n hb hx=>?_,λb o e n hb hx=>?_,I.base.free,λb o e hx=>?_,I.base.tups,I.base.frzs,I.base.tbls⟩,⟨m,hn.sameBut hs (Ne.symm (cne x c hc)),λj y v' e1 e2 e3=>?_⟩,λy c' e=>?_,I.free,I.freeC,λp hp=>?_,tracked ⟨oc,hoc,I.freeC x c hc⟩ hs,by simpa using I.len⟩ ⟨c,hs, .inr hc⟩
  ·exact(hs.2 b (Nat.ne_of_lt (Nat.lt_of_lt_of_le (Heap.lt_size e) (I.ok.cab x c hfn hc)))).trans (I.base.keep b o e n hb hx)
  ·obtain⟨sl,e1⟩:=I.base.slot b o e n hb hx
   exact⟨sl,(hs.2 b (Nat.ne_of_lt (Nat.lt_of_lt_of_le (Heap.lt_size e) (I.ok.cab x c hfn hc)))).trans e1⟩
  ·obtain⟨o',e1⟩:=I.base.there b o e hx
   exact⟨o',(hs.2 b (Nat.ne_of_lt (Nat.lt_of_lt_of_le (Heap.lt_size e) (I.ok.cab x c hfn hc)))).trans e1⟩
  ·by_cases hj:j=i
   ·subst hj
    rw[hi] at e1;cases e1
    rw[List.getElem?_set_self hiσ] at e2
    cases e2
    exact⟨u,r, .inr ⟨.inl hk,c,hc,hc'⟩⟩
   ·rw[List.getElem?_set_ne (Ne.symm hj)] at e2
    obtain⟨u',r',q⟩:=hl j y v' e1 e2 e3
    refine⟨u',r',?_⟩
    rcases q with q | ⟨k,c',e,z'⟩
    ·exact .inl q
    ·refine .inr ⟨k,c',e,z'.sameBut hs ?_⟩
     rintro rfl
     exact hj (VD hN e1 (I.ok.inj _ _ _ e hc▸hi))
  ·by_cases hcc:c'=c
   ·subst hcc;exact⟨_,hc'⟩
   ·obtain⟨w2,z2⟩:=I.cell y c' e
    exact⟨w2,z2.sameBut hs hcc⟩
  ·obtain⟨e,n,ne,nf,d⟩:=I.pin p hp
   refine⟨(hs.2 p.1 ?_).trans e,n,ne,nf,d⟩
   intro q
   rw[q,hoc] at e
   have q':oc=p.2:=Option.some.inj e
   exact d w' (by rw[←q'];exact hocd)
theorem Jk {M:Model}{A:Around}{E:Value->Shared->Prop}{i:Nat}{x:Str}{v:V}{u:Value}{Q:Unit->Shared->Prop}(I:Inv X pins σ H s)(hN:X.N.Nodup)(hi:X.N[i]?=some x)(hx:Loc X.env.scope x)(r:XV v u)
  (h:∀s',Inv X pins (σ.set i (some v)) H s'->Q () s')(hf:X.fn x=true∨X.env.scope.names.lookup x=some .local:=by first |exact .inl rfl |exact .inr rfl |assumption):wpAny M A (storeName X.env x u) Q E s:=
 Ql I hN hi hx r (λs' I' _=>h s' I') hf
theorem Inv.call' {s':Shared}{ch:List Addr}(I:Inv X pins σ H s)(ho:s'.os=s.os)(u:Un (frs X.stack) ch H H' s.heap s'.heap)(hok:HOk X.prog X.w H' s'.heap)(hg:AllBare s'.gens)
  (hch:∀b∈ch,(b∈X.ex∨X.s₀.heap.objs.size<=b)/\b≠X.env.locals/\(∀x c,X.env.cells.lookup x=some c->c≠b)/\∀p∈X.pn++pins,p.1≠b):Inv X pins σ H' s':=by
 obtain⟨h',g',d',t',o'⟩:=s'
 have e:o'=s.os:=ho
 subst e
 exact I.call (g':=g') (t':=t') (d':=d') u hok hg hch
end
noncomputable abbrev XK:=Value->Option Addr->Hp->Prop
noncomputable abbrev St:=List (Option V)
noncomputable abbrev VK:=V->Hp->Prop
noncomputable abbrev TE:=St->Hp->VK->Prop
noncomputable abbrev TT:=St->Hp->(Bool->Hp->Prop)->Prop
noncomputable abbrev TA:=St->Hp->(List V->Hp->Prop)->Prop
structure Ends where
 nx:St->Hp->Prop
 rt:VK
 bk:St->Hp->Prop:=λ_ _=>False
 ct:St->Hp->Prop:=λ_ _=>False
noncomputable abbrev TS:=Ends->St->Hp->Prop
noncomputable def EP (X:Cx)(pins:List (Addr×Obj))(σ:St)(Q:VK)(u:Value)(s':Shared):Prop:=∃ v H',Inv X pins σ H' s'/\XV v u/\Q v H'
noncomputable def TP (X:Cx)(pins:List (Addr×Obj))(σ:St)(Q:Bool->Hp->Prop)(b:Bool)(s':Shared):Prop:=∃ H',Inv X pins σ H' s'/\Q b H'
noncomputable def AP (X:Cx)(pins:List (Addr×Obj))(σ:St)(Q:List V->Hp->Prop)(us:List Value)(s':Shared):Prop:=∃ vs H',Inv X pins σ H' s'/\XJ vs us/\Q vs H'
noncomputable def SP (X:Cx)(pins:List (Addr×Obj))(D:Ends)(f:Flow)(s':Shared):Prop:=
 match f with
 | .next=>∃ σ' H',Inv X pins σ' H' s'/\D.nx σ' H'
 | .brk=>∃ σ' H',Inv X pins σ' H' s'/\D.bk σ' H'
 | .cont=>∃ σ' H',Inv X pins σ' H' s'/\D.ct σ' H'
 | .ret u=>∃ v σ' H',Inv X pins σ' H' s'/\XV v u/\D.rt v H'
noncomputable def PE (X:Cx)(e:Expr)(t:TE):Prop:=
 ∀(pins:List (Addr×Obj)) (s:Shared) (σ:St) (H:Hp) (Q:VK),Inv X pins σ H s->t σ H Q->wpAny (model X.prog X.w) X.A (eval e X.env) (EP X pins σ Q) X.xe s
noncomputable def PT (X:Cx)(e:Expr)(t:TT):Prop:=
 ∀(pins:List (Addr×Obj)) (s:Shared) (σ:St) (H:Hp) (Q:Bool->Hp->Prop),Inv X pins σ H s->t σ H Q->wpAny (model X.prog X.w) X.A (isTrue e X.env (eval e X.env)) (TP X pins σ Q) X.xe s
noncomputable def PW (X:Cx)(e:Expr)(t:TT):Prop:=
 ∀(whole:Sem Value) (pins:List (Addr×Obj)) (s:Shared) (σ:St) (H:Hp) (Q:Bool->Hp->Prop),Inv X pins σ H s->t σ H Q->wpAny (model X.prog X.w) X.A (isTrue e X.env whole) (TP X pins σ Q) X.xe s
theorem PW.pt {X:Cx}{e:Expr}{t:TT}(h:PW X e t):PT X e t:=h _
noncomputable def PA (X:Cx)(es:List Expr)(t:TA):Prop:=
 ∀(pos:Pos) (pins:List (Addr×Obj)) (s:Shared) (σ:St) (H:Hp) (Q:List V->Hp->Prop),Inv X pins σ H s->t σ H Q->wpAny (model X.prog X.w) X.A (spliced (backTo pos (starEach es X.env))) (AP X pins σ Q) X.xe s
noncomputable def PS (X:Cx)(st:Stmt)(t:TS):Prop:=
 ∀(pins:List (Addr×Obj)) (s:Shared) (σ:St) (H:Hp) (D:Ends),Inv X pins σ H s->t D σ H->wpAny (model X.prog X.w) X.A (exec st X.env) (SP X pins D) X.xe s
noncomputable def PSs (X:Cx)(st:List Stmt)(t:TS):Prop:=
 ∀(pins:List (Addr×Obj)) (s:Shared) (σ:St) (H:Hp) (D:Ends),Inv X pins σ H s->t D σ H->wpAny (model X.prog X.w) X.A (execs st X.env) (SP X pins D) X.xe s
theorem thn {α:Type}{t:Sem α}{Q Q':α->Shared->Prop}{M:Model}{A:Around}{E:Value->Shared->Prop}{s:Shared}(h:wpAny M A t Q E s)(hQ:∀a s,Q a s->Q' a s):wpAny M A t Q' E s:=wpAny_mono h hQ λ_ _ x=>x
section
variable {X:Cx}
noncomputable def K8 (i:Nat):TE:=λσ H Q=>∃ v,σ[i]?=some (some v)/\Q v H
noncomputable def tC (v:V):TE:=λ_ H Q=>Q v H
theorem CO {i:Nat}{x:Str}{pos:Pos}(hN:X.N[i]?=some x)(hv:Vis X.env.scope x)(hd:(x==("__debug__":Str))=false:=by decide)(hcd:(x==("__classdict__":Str))=false:=by decide):PE X (.Name x pos) (K8 i):=by
 intro pins s σ H Q I h
 obtain⟨v,e,h⟩:=h
 obtain⟨m,hn,hl⟩:=I.loc
 obtain⟨u,r,l⟩:=hl i x v hN e hv
 have fin:EP X pins σ Q u s:=⟨v,H,I,r,h⟩
 rcases l with⟨hk,hm⟩ | ⟨hk,c,hc,hcell⟩
 ·exact wpAny_Name (wpAny_loadName_local I.ok.kind hk hn hm fin) hd
 ·rcases hk with hk |hk
  ·exact wpAny_Name (wpAny_loadName_cell I.ok.kind hk hc hcell fin) hd
  ·exact wpAny_Name (wpAny_loadName_free I.ok.kind hk hc hcell fin hcd) hd
theorem Xe {i j pos}:PE X (.Constant (.int i) j pos) (tC (.int i)):=λ_ _ _ H _ I h=>wpAny_Constant_int ⟨.int i,H,I.tok _,⟨_,rfl⟩,h⟩
theorem Ud {b j pos}:PE X (.Constant (.bool b) j pos) (tC (.bl b)):=λ_ _ _ H _ I h=>Constant_bool ⟨.bl b,H,I,rfl,h⟩
theorem Xq {x j pos}:PE X (.Constant (.str x) j pos) (tC (.str x)):=λ_ _ _ H _ I h=>Calls.Constant_str ⟨.str x,H,I.tok _,⟨_,rfl⟩,h⟩
noncomputable def Gl (X:Cx)(x:Str):Prop:=X.env.kindOf x=some .globalImplicit
theorem ZH {E:Value->Shared->Prop}{pins:List (Addr×Obj)}{s:Shared}{σ:St}{H:Hp}{x:Str}{u:Value}{pos:Pos}{Q:Value->Shared->Prop}(I:Inv X pins σ H s)(hg:Gl X x)(hm:X.mg x=some u)(h:Q u s)
  (hd:(x==("__debug__":Str))=false:=by decide):wpAny (model X.prog X.w) X.A (eval (.Name x pos) X.env) Q E s:=
 Calls.Name_function_global I.ok.kind hg (Calls.loadGlobal_global (by rw[I.ok.glob];exact I.mod.glob.keeps I.bk) hm h) hd
theorem VT {E:Value->Shared->Prop}{pins:List (Addr×Obj)}{s:Shared}{σ:St}{H:Hp}{x:Str}{u:Value}{pos:Pos}{Q:Value->Shared->Prop}(I:Inv X pins σ H s)(hg:Gl X x)(hm:X.mg x=none)(hv:bootBuiltins x=some u)(h:Q u s)
  (hn:x≠ "__name__":=by decide)(hd:(x==("__debug__":Str))=false:=by decide):wpAny (model X.prog X.w) X.A (eval (.Name x pos) X.env) Q E s:=by
 obtain⟨mb,h1,h2⟩:=I.mod.blt
 exact Calls.Name_function_global I.ok.kind hg (Calls.loadGlobal_builtin (by rw[I.ok.glob];exact I.mod.glob.keeps I.bk) hm (by rw[I.ok.blt];exact h1.keeps I.bk) ((h2 x hn).trans hv) h) hd
theorem Vv {x:Str}{v:V}{u:Value}{pos:Pos}(hg:Gl X x)(hm:X.mg x=some u)(r:XV v u)(hd:(x==("__debug__":Str))=false:=by decide):PE X (.Name x pos) (tC v):=
 λ_ _ _ H _ I h=>ZH I hg hm ⟨v,H,I,r,h⟩ hd
theorem Zz {x:Str}{v:V}{u:Value}{pos:Pos}(hg:Gl X x)(hm:X.mg x=none)(hv:bootBuiltins x=some u)(r:XV v u)(hn:x≠ "__name__":=by decide)(hd:(x==("__debug__":Str))=false:=by decide):PE X (.Name x pos) (tC v):=
 λ_ _ _ H _ I h=>VT I hg hm hv ⟨v,H,I,r,h⟩ hn hd
variable {a b:Expr}{ta tb:TE}{pos:Pos}
noncomputable def PC (X:Cx)(op:CmpOp)(a b:Expr)(t:TE):Prop:=
 ∀(pins:List (Addr×Obj)) (s:Shared) (σ:St) (H:Hp) (Q:VK),Inv X pins σ H s->t σ H Q->
  wpAny (model X.prog X.w) X.A (eval a X.env) (λv s₁=>wpAny (model X.prog X.w) X.A (eval b X.env) (λu s₂=>wpAny (model X.prog X.w) X.A (compareOp op v u) (EP X pins σ Q) X.xe s₂) X.xe s₁) X.xe s
theorem GQ (b:Expr){op:CmpOp}(h:op≠ .In)(h2:op≠ .NotIn):behindInMarks op b=false:=by
 have e1:(op==CmpOp.In)=false:=by cases op<;> first |rfl |exact absurd rfl h
 have e2:(op==CmpOp.NotIn)=false:=by cases op<;> first |rfl |exact absurd rfl h2
 cases b<;> simp[behindInMarks,e1,e2]
noncomputable def tB (t:TE):TT:=λσ H Q=>t σ H λx H1=>∃ c,x= .bl c/\Q c H1
theorem CK {op:CmpOp}{t:TE}(h:PC X op a b t)(h1:behindInMarks op b=false:=by first |exact GQ _ (by decide) (by decide) |rfl):PT X (.Compare a [op] [b] pos) (tB t):=by
 intro pins s σ H Q I hw
 refine wpAny_isTrue_Compare1 (thn (h pins s σ H _ I hw) λv s1 h1=>thn h1 λu s2 h2=>thn h2 λc s3 r9=>?_) h1
 obtain⟨x,H1,I1,r1,q1⟩:=r9
 obtain⟨d,rfl,q⟩:=q1
 cases r1
 exact wpAny_truthy_bool ⟨H1,I1,q⟩
theorem ZP {e:Expr}{t:TE}(h:PE X e t)(he:∀whole,isTrue e X.env whole=(do let v ←whole;standAt e.pos;holding [v] (truthy v)):=by intro _;rfl):PT X e (tB t):=by
 intro pins s σ H Q I hw
 refine isTrue_plain (thn (h pins s σ H _ I hw) λv s1 r9=>?_) (he _)
 obtain⟨x,H1,I1,r1,q1⟩:=r9
 obtain⟨d,rfl,q⟩:=q1
 cases r1
 exact wpAny_truthy_bool ⟨H1,I1,q⟩
variable {tA tB':TT}{YR:List Expr}
noncomputable def tOr (t u:TT):TT:=λσ H Q=>t σ H λc H1=>if c=true then Q true H1 else u σ H1 Q
noncomputable def BR (t:TT):TT:=λσ H Q=>t σ H λc H1=>Q (!c) H1
theorem QL (ha:PT X a tA):PW X (.BoolOp .Or [a] pos) tA:=by
 intro wh pins s σ H Q I h
 refine isTrue_or (thn (ha pins s σ H Q I h) λc s1 e=>?_)
 cases c with
 |false=>exact isTrue_or_nil e
 |true=>exact e
theorem Uk (ha:PT X a tA)(hb:PW X (.BoolOp .Or (b::YR) pos) tB'):PW X (.BoolOp .Or (a::b::YR) pos) (tOr tA tB'):=by
 intro wh pins s σ H Q I h
 refine isTrue_or (thn (ha pins s σ H _ I h) λc s1 r9=>?_)
 obtain⟨H1,I1,q1⟩:=r9
 cases c with
 |true=>exact⟨H1,I1,q1⟩
 |false=>exact hb wh pins s1 σ H1 Q I1 q1
theorem JE (ha:PT X a tA):PT X (.UnaryOp .Not a pos) (BR tA):=by
 intro pins s σ H Q I h
 exact isTrue_not (ha pins s σ H (λc H1=>Q (!c) H1) I h)
noncomputable def Cu (ta tb:TE):TE:=λσ H Q=>ta σ H λx H1=>∃ c,x= .bl c/\if c=true then tb σ H1 Q else Q (.bl false) H1
noncomputable def Cl (ta:TE):TE:=λσ H Q=>ta σ H λx H1=>∃ c,x= .bl c/\Q (.bl (!c)) H1
theorem GV {op}{t:TE}(h:PE X a t):PE X (.BoolOp op [a] pos) t:=λpins s σ H Q I hw=>BoolOp_one (h pins s σ H Q I hw)
theorem Fh (ha:PE X a ta)(hb:PE X (.BoolOp .And (b::YR) pos) tb):PE X (.BoolOp .And (a::b::YR) pos) (Cu ta tb):=by
 intro pins s σ H Q I h
 refine BoolOp_and (thn (ha pins s σ H _ I h) λv s1 r9=>?_)
 obtain⟨x,H1,I1,r1,q1⟩:=r9
 obtain⟨c,rfl,q1⟩:=q1
 cases r1
 refine wpAny_truthy_bool ?_
 cases c with
 |true=>exact hb pins s1 σ H1 Q I1 q1
 |false=>exact⟨.bl false,H1,I1,rfl,q1⟩
theorem C5 (ha:PE X a ta):PE X (.UnaryOp .Not a pos) (Cl ta):=by
 intro pins s σ H Q I h
 refine UnaryOp_ (thn (ha pins s σ H _ I h) λv s1 r9=>?_)
 obtain⟨x,H1,I1,r1,q1⟩:=r9
 obtain⟨c,rfl,q1⟩:=q1
 cases r1
 exact not_of (wpAny_truthy_bool ⟨.bl (!c),H1,I1,rfl,q1⟩)
noncomputable def tIf (t:TT)(ta tb:TE):TE:=λσ H Q=>t σ H λc H1=>if c=true then ta σ H1 Q else tb σ H1 Q
theorem Zt {c:Expr}(hc:PT X c tA)(ha:PE X a ta)(hb:PE X b tb):PE X (.IfExp c a b pos) (tIf tA ta tb):=by
 intro pins s σ H Q I h
 refine wpAny_IfExp (thn (hc pins s σ H _ I h) λd s1 r9=>?_)
 obtain⟨H1,I1,q1⟩:=r9
 cases d with
 |true=>exact ha pins s1 σ H1 Q I1 q1
 |false=>exact hb pins s1 σ H1 Q I1 q1
end
noncomputable def SqL (K:PySem.W.Frag)(H:Hp)(a:Addr)(xs:List V):Prop:=
 Rd H a (.lst xs)∨
  ∃(o:Obj) (its:Array Value) (n:Nat),K.lookup a=some o/\o.cls= .type "list" /\o.dict=none/\o.data= .seq its n/\its.size<=sizeLine/\XJ xs its.toList
noncomputable def SqT (K:PySem.W.Frag)(H:Hp)(a:Addr)(xs:List V):Prop:=
 Rd H a (.tup xs)∨
  ∃(o:Obj) (its:Array Value) (n:Nat),K.lookup a=some o/\o.cls= .type "tuple" /\o.data= .seq its n/\its.size<=sizeLine/\XJ xs its.toList
noncomputable def Ef:Value->Option V
 | .none=>some .non
 | .bool b=>some (.bl b)
 | .int i _=>some (.int i)
 | .str x _=>some (.str x)
 | .bytes b _=>some (.byt b)
 | .float b _=>some (.flt b)
 | .ref a=>some (.ref a)
 | .type n=>some (.ty n)
 |_=>none
theorem XV.abs {x:V}{u:Value}(r:XV x u):Ef u=some x:=by
 cases x with
 |non=>cases r;rfl
 |bl _=>cases r;rfl
 |int _=>obtain⟨t,rfl⟩:=r;rfl
 |str _=>obtain⟨t,rfl⟩:=r;rfl
 |byt _=>obtain⟨t,rfl⟩:=r;rfl
 |flt _=>obtain⟨t,rfl⟩:=r;rfl
 |ref _=>cases r;rfl
 |ty _=>cases r;rfl
theorem XV.inj {x y:V}{u:Value}(r:XV x u)(q:XV y u):x=y:=Option.some.inj (r.abs.symm.trans q.abs)
theorem XJ.inj:∀{xs ys:List V}{us:List Value},XJ xs us->XJ ys us->xs=ys:=fun {xs ys us} p=>by
 induction p generalizing ys with
 |nil=>intro q;cases q;rfl
 |cons r _ ih=>intro q;cases q with |cons r' t'=>rw[r.inj r',ih t']
section
variable {X:Cx}{pins:List (Addr×Obj)}{σ:St}{H:Hp}{s:Shared}{a:Addr}{xs ys:List V}
theorem SqL.of {K:PySem.W.Frag}(h:H a=some (.lst xs)):SqL K H a xs:=.inl (.inl h)
theorem SqT.of {K:PySem.W.Frag}(h:H a=some (.tup xs)):SqT K H a xs:=.inl (.inl h)
theorem Inv.list (I:Inv X pins σ H s)(h:SqL X.K H a xs):∃its:List Value,XJ xs its/\PlainL s.heap a its.toArray/\xs.length<=sizeLine:=by
 rcases h with h | ⟨o,its,n,hk,hc,hd,hs,hz,r⟩
 ·obtain⟨z,its,n,r,e⟩:=h.ok I.hok
  exact⟨its,r,⟨_,n,e,rfl,rfl,rfl⟩,z⟩
 ·refine⟨its.toList,r,⟨o,n,I.kIn a o hk,hc,hd,by simpa using hs⟩,?_⟩
  have e:=r.length
  simp only[Array.length_toList] at e
  omega
theorem Inv.tuple (I:Inv X pins σ H s)(h:SqT X.K H a xs):∃its:List Value,XJ xs its/\IsTup s.heap a its.toArray/\xs.length<=sizeLine:=by
 rcases h with h | ⟨o,its,n,hk,hc,hs,hz,r⟩
 ·obtain⟨z,its,r,p⟩:=h.ok I.hok
  exact⟨its,r,p.t,z⟩
 ·refine⟨its.toList,r,⟨o,I.kIn a o hk,hc,n,by simpa using hs⟩,?_⟩
  have e:=r.length
  simp only[Array.length_toList] at e
  omega
theorem Inv.list_inj (I:Inv X pins σ H s)(h:SqL X.K H a xs)(h':SqL X.K H a ys):xs=ys:=by
 obtain⟨its,r,⟨o,n,e,_,_,d⟩,_⟩:=I.list h
 obtain⟨its',r',⟨o',n',e',_,_,d'⟩,_⟩:=I.list h'
 rw[e] at e';cases e'
 rw[d] at d'
 injection d' with d1 _
 have:its=its':=by simpa using congrArg Array.toList d1
 subst this
 exact r.inj r'
theorem Inv.tuple_inj (I:Inv X pins σ H s)(h:SqT X.K H a xs)(h':SqT X.K H a ys):xs=ys:=by
 obtain⟨its,r,⟨o,e,_,n,d⟩,_⟩:=I.tuple h
 obtain⟨its',r',⟨o',e',_,n',d'⟩,_⟩:=I.tuple h'
 rw[e] at e';cases e'
 rw[d] at d'
 injection d' with d1 _
 have:its=its':=by simpa using congrArg Array.toList d1
 subst this
 exact r.inj r'
end
noncomputable abbrev Cx.wish (X:Cx)(E:Value->Shared->Prop):Cx:={X with xe:=E}
noncomputable abbrev Cx.nox (X:Cx):Cx:=X.wish λ_ _=>False
theorem Cx.Ok.wish {X:Cx}(ok:X.Ok)(E:Value->Shared->Prop):(X.wish E).Ok:=
 ⟨ok.mod,ok.kind,ok.glob,ok.blt,ok.above,ok.inj,ok.has,ok.cab,ok.hd,ok.frames,ok.stk,ok.exf,ok.bs,ok.bsz,ok.noex,ok.exfs,ok.funs,ok.frf⟩
theorem Cx.Ok.unwish {X:Cx}{E:Value->Shared->Prop}(ok:(X.wish E).Ok):X.Ok:=
 ⟨ok.mod,ok.kind,ok.glob,ok.blt,ok.above,ok.inj,ok.has,ok.cab,ok.hd,ok.frames,ok.stk,ok.exf,ok.bs,ok.bsz,ok.noex,ok.exfs,ok.funs,ok.frf⟩
section
variable {X:Cx}{pins:List (Addr×Obj)}{σ:St}{H:Hp}{s:Shared}{E:Value->Shared->Prop}
theorem Inv.wish (I:Inv X pins σ H s)(E:Value->Shared->Prop):Inv (X.wish E) pins σ H s:=⟨I.ok.wish E,I.os,I.bare,I.base,I.loc,I.cell,I.free,I.freeC,I.pin,I.hok,I.len⟩
theorem Inv.unwish (I:Inv (X.wish E) pins σ H s):Inv X pins σ H s:=⟨I.ok.unwish,I.os,I.bare,I.base,I.loc,I.cell,I.free,I.freeC,I.pin,I.hok,I.len⟩
theorem SP.unwish {D:Ends}{f:Flow}{s':Shared}(h:SP (X.wish E) pins D f s'):SP X pins D f s':=by
 cases f with
 |next=>obtain⟨σ',H',I,q⟩:=h;exact⟨σ',H',I.unwish,q⟩
 |brk=>obtain⟨σ',H',I,q⟩:=h;exact⟨σ',H',I.unwish,q⟩
 |cont=>obtain⟨σ',H',I,q⟩:=h;exact⟨σ',H',I.unwish,q⟩
 |ret u=>obtain⟨v,σ',H',I,r,q⟩:=h;exact⟨v,σ',H',I.unwish,r,q⟩
theorem PE.nox {e:Expr}{t:TE}(h:PE X.nox e t):PE X e t:=λpins s σ H Q I hw=>
 wpAny_mono (h pins s σ H Q (I.wish _) hw) (λ_ _ r9=>by obtain⟨v,H',I',r,q⟩:=r9;exact⟨v,H',I'.unwish,r,q⟩) λ_ _ z=>False.elim z
theorem PT.nox {e:Expr}{t:TT}(h:PT X.nox e t):PT X e t:=λpins s σ H Q I hw=>
 wpAny_mono (h pins s σ H Q (I.wish _) hw) (λ_ _ r9=>by obtain⟨H',I',q⟩:=r9;exact⟨H',I'.unwish,q⟩) λ_ _ z=>False.elim z
theorem PSs.nox {st:List Stmt}{t:TS}(h:PSs X.nox st t):PSs X st t:=λpins s σ H D I hw=>
 wpAny_mono (h pins s σ H D (I.wish _) hw) (λ_ _ q=>q.unwish) λ_ _ z=>False.elim z
end
section
variable {X:Cx}{st:Stmt}{YR:List Stmt}{t u:TS}{e:Expr}{te:TE}{pos:Pos}
noncomputable def Kt:TS:=λD σ H=>D.nx σ H
noncomputable def Vc (t u:TS):TS:=λD σ H=>t {D with nx:=u D} σ H
theorem Xh:PSs X [] Kt:=λ_ _ σ H _ I h=>wpAny_execs_nil ⟨σ,H,I,h⟩
theorem Xc (h1:PS X st t)(h2:PSs X YR u):PSs X (st::YR) (Vc t u):=by
 intro pins s σ H D I h
 refine wpAny_execs_cons (thn (h1 pins s σ H {D with nx:=u D} I h) λf s1 q=>?_)
 cases f with
 |next=>
  obtain⟨σ',H',I',q⟩:=q
  exact h2 pins s1 σ' H' D I' q
 |ret v=>exact q
 |brk=>exact q
 |cont=>exact q
theorem Inv.quiet {pins:List (Addr×Obj)}{σ:St}{H:Hp}{s:Shared}(I:Inv X pins σ H s):interactive X.env=false:=by simp[interactive,I.ok.kind]
noncomputable def Da (te:TE):TS:=λD σ H=>te σ H λ_ H1=>D.nx σ H1
theorem Yp (he:PE X e te)(hs:swapsWith e none pos.line X.env=pure false:=by rfl):PS X (.Expr e pos) (Da te):=by
 intro pins s σ H D I h
 exact wpAny_Expr_any (thn (he pins s σ H _ I h) λv s1 r9=>by obtain⟨x,H1,I1,r1,q1⟩:=r9;exact⟨σ,H1,I1,q1⟩) I.quiet hs
noncomputable def BX (te:TE):TS:=λD σ H=>te σ H D.rt
theorem XO (he:PE X e te):PS X (.Return (some e) pos) (BX te):=by
 intro pins s σ H D I h
 exact wpAny_Return_some (thn (he pins s σ H _ I h) λv s1 r9=>by obtain⟨x,H1,I1,r1,q1⟩:=r9;exact⟨x,σ,H1,I1,r1,q1⟩)
noncomputable def Bo (c:TT)(t u:TS):TS:=λD σ H=>c σ H λb H1=>if b=true then t D σ H1 else u D σ H1
theorem Yt {c:Expr}{a b:List Stmt}{tc:TT}(hc:PT X c tc)(ha:PSs X a t)(hb:PSs X b u):PS X (.If c a b pos) (Bo tc t u):=by
 intro pins s σ H D I h
 refine wpAny_If (thn (hc pins s σ H _ I h) λd s1 r9=>?_)
 obtain⟨H1,I1,q1⟩:=r9
 cases d with
 |true=>exact ha pins s1 σ H1 D I1 q1
 |false=>exact hb pins s1 σ H1 D I1 q1
end
noncomputable abbrev TG:=V->St->Hp->(St->Hp->Prop)->Prop
noncomputable abbrev TGs:=List V->St->Hp->(St->Hp->Prop)->Prop
noncomputable def PG (X:Cx)(target:Expr)(t:TG):Prop:=
 ∀(pins:List (Addr×Obj)) (s:Shared) (σ:St) (H:Hp) (v:V) (u:Value) (Q:St->Hp->Prop),Inv X pins σ H s->XV v u->t v σ H Q->
  wpAny (model X.prog X.w) X.A (assign target X.env u) (λ_ s'=>∃ σ' H',Inv X pins σ' H' s'/\Q σ' H') X.xe s
noncomputable def PGs (X:Cx)(ts:List Expr)(t:TGs):Prop:=
 ∀(pins:List (Addr×Obj)) (s:Shared) (σ:St) (H:Hp) (vs:List V) (us:List Value) (Q:St->Hp->Prop),Inv X pins σ H s->XJ vs us->t vs σ H Q->
  wpAny (model X.prog X.w) X.A (assignInOrder ((assignEach ts X.env).map (·.2)) us) (λ_ s'=>∃ σ' H',Inv X pins σ' H' s'/\Q σ' H') X.xe s
section
variable {X:Cx}{pos:Pos}
noncomputable def Y8 (i:Nat):TG:=λv σ H Q=>Q (σ.set i (some v)) H
theorem Yv {i:Nat}{x:Str}(hN:X.N.Nodup)(hi:X.N[i]?=some x)(hx:Loc X.env.scope x)(hf:X.fn x=true∨X.env.scope.names.lookup x=some .local:=by first |exact .inl rfl |exact .inr rfl |assumption):PG X (.Name x pos) (Y8 i):=by
 intro pins s σ H v u Q I r h
 exact wpAny_assign_Name (Jk I hN hi hx r (λs' I'=>⟨_,H,I',h⟩) hf)
noncomputable def BE:TGs:=λvs σ H Q=>vs=[]/\Q σ H
noncomputable def Vs (t:TG)(u:TGs):TGs:=λvs σ H Q=>∃ v r,vs=v::r/\t v σ H λσ' H'=>u r σ' H' Q
theorem FU:PGs X [] BE:=by
 intro pins s σ H vs us Q I r h
 obtain⟨e,h⟩:=h
 subst e
 cases r
 exact assignInOrder_nil ⟨σ,H,I,h⟩
theorem Jl {e:Expr}{es:List Expr}{t:TG}{u:TGs}(h1:PG X e t)(h2:PGs X es u)
  (hs:(assignEach (e::es) X.env).map (·.2)=assign e X.env::(assignEach es X.env).map (·.2):=by rfl):PGs X (e::es) (Vs t u):=by
 intro pins s σ H vs us Q I r h
 obtain⟨v,vr,e1,h⟩:=h
 subst e1
 cases r with
 |cons r rr=>
  rw[hs]
  refine assignInOrder_cons (thn (h1 pins s σ H _ _ _ I r h) λ_ s1 r9=>?_)
  obtain⟨σ1,H1,I1,q1⟩:=r9
  exact h2 pins s1 σ1 H1 _ _ Q I1 rr q1
noncomputable def BM (K:PySem.W.Frag)(n:Nat)(t:TGs):TG:=λv σ H Q=>∃ a xs,v= .ref a/\SqT K H a xs/\xs.length=n/\t xs σ H Q
theorem Ca {es:List Expr}{k:Nat}{t:TGs}{n:Nat}(hc:X.calm=true)(h:PGs X es t)
  (hn:(assignEach es X.env).length=n:=by rfl)(hst:(assignEach es X.env).findIdx? (·.1)=none:=by rfl):PG X (.Tuple es k pos) (BM X.K n t):=by
 intro pins s σ H v u Q I r hw
 obtain⟨a,xs,e1,hq,hl,hw⟩:=hw
 subst e1
 cases r
 obtain⟨its,rv,ht,hz⟩:=I.tuple hq
 refine assign_Tuple_tuple (I.ok.hd hc) ht (by simp[hn, ←hl,rv.length]) hst λh' hx=>?_
 have I1:Inv X pins σ H {s with heap:=h'}:=I.kept (t':=s.toks) λb o e=>hx b o (Nat.ne_of_lt (Heap.lt_size e)) e
 exact h pins _ σ H xs _ Q I1 (by simpa using rv) hw
noncomputable def G1 (te:TE)(g:TG):TS:=λD σ H=>te σ H λx H1=>g x σ H1 D.nx
theorem C7 {tg e:Expr}{te:TE}{g:TG}(he:PE X e te)(hg:PG X tg g)(hs:swapsWithSole [tg] e pos.line X.env=pure false:=by rfl)(hw:swappedStores [tg] e X.env=pure none:=by rfl)
  (h1:(assignEach [tg] X.env).map (·.2)=[assign tg X.env]:=by rfl):PS X (.Assign [tg] e pos) (G1 te g):=by
 intro pins s σ H D I h
 refine wpAny_Assign_stores (thn (he pins s σ H _ I h) λv s1 r9=>?_) hs hw
 obtain⟨x,H1,I1,r1,q1⟩:=r9
 rw[h1]
 exact thn (hg pins s1 σ H1 x v _ I1 r1 q1) λ_ s2 q=>q
theorem XE {i:Nat}{x:Str}{e:Expr}{te:TE}{pos':Pos}(hN:X.N.Nodup)(hi:X.N[i]?=some x)(hx:Loc X.env.scope x)(he:PE X e te)(hs:swapsWith e (some (.Name x pos')) pos.line X.env=pure false:=by rfl)(hf:X.fn x=true∨X.env.scope.names.lookup x=some .local:=by first |exact .inl rfl |exact .inr rfl |assumption):
  PS X (.Assign [.Name x pos'] e pos) (G1 te (Y8 i)):=by
 intro pins s σ H D I h
 refine wpAny_Assign_Name (thn (he pins s σ H _ I h) λv s1 r9=>?_) hs
 obtain⟨y,H1,I1,r1,q1⟩:=r9
 exact Jk I1 hN hi hx r1 (λs2 I2=>⟨_,H1,I2,q1⟩) hf
end
section
variable {X:Cx}{pos:Pos}
end
structure It where
 go:Nat->Hp->Prop
 yld:Nat->Hp->V->Hp->Prop
 stop:Nat->Hp->Prop
noncomputable def Vu (X:Cx)(pins:List (Addr×Obj))(H:Hp)(b:Addr):Prop:=
 H b=none/\b≠X.env.locals/\b∉X.fs/\(b∈X.ex∨X.s₀.heap.objs.size<=b)/\(∀x c,X.env.cells.lookup x=some c->c≠b)/\∀p∈X.pn++pins,p.1≠b
theorem Inv.fpOk {X:Cx}{pins:List (Addr×Obj)}{σ:St}{H H':Hp}{s:Shared}{b:Addr}(I:Inv X pins σ H s)(hb:s.heap.objs.size<=b)(hn:H' b=none):Vu X pins H' b:=by
 refine⟨hn,Nat.ne_of_gt (Nat.lt_of_lt_of_le I.lt hb),I.nofs hb, .inr (Nat.le_trans I.sz hb),λx c e z=>?_,λp hp z=>?_⟩
 ·obtain⟨v,q⟩:=I.cell x c e
  exact absurd (Nat.lt_of_lt_of_le q.lt (by rw[z];exact hb)) (Nat.lt_irrefl _)
 ·exact absurd (Nat.lt_of_lt_of_le (Heap.lt_size (I.pin p hp).1) (by rw[z];exact hb)) (Nat.lt_irrefl _)
structure Turn (P:Program)(w:World)(K:PySem.W.Frag)(tg:Expr)(J:It)(fp:List Addr)(it:Addr)(tn:Nat->Heap->Prop):Prop where
 mem:it∈fp
 obj:∀i h,tn i h->∀b∈fp,∃o,h.get? b=some o/\∀v,o.data≠ .cell v
 keep:∀i h h',tn i h->(∀b∈fp,∀o,h.get? b=some o->h'.get? b=some o)->tn i h'
 item:∀(X:Cx),X.prog=P->X.w=w->X.K=K->X.calm=true->∀(i:Nat) (pins:List (Addr×Obj)) (s:Shared) (σ:St) (H:Hp) (E:Value->Shared->Prop),Inv X pins σ H s->(∀b∈fp,Vu X pins H b)->tn i s.heap->J.go i H->
  wpAny (model P w) X.A (pyNext (.ref it)) (λr s1=>∃ u,r=some u/\
   wpAny (model P w) X.A (letOwnedTupleGo tg (.ref it) u) (λ_ s2=>∃ x H',Inv X pins σ H' s2/\XV x u/\J.yld i H x H'/\tn (i+1) s2.heap/\∀b∈fp,H' b=none) E s1) E s
 done:∀(X:Cx),X.prog=P->X.w=w->X.K=K->X.calm=true->∀(i:Nat) (pins:List (Addr×Obj)) (s:Shared) (σ:St) (H:Hp) (E:Value->Shared->Prop),Inv X pins σ H s->(∀b∈fp,Vu X pins H b)->tn i s.heap->J.stop i H->
  wpAny (model P w) X.A (pyNext (.ref it)) (λr s1=>r=none/\Inv X pins σ H s1) E s
 self:∀(A:Around) (i:Nat) (s:Shared) (Q:Value->Shared->Prop) (E:Value->Shared->Prop),tn i s.heap->Q (.ref it) s->wpAny (model P w) A (pyIter (.ref it)) Q E s
noncomputable abbrev TI:=St->Hp->(It->Hp->Prop)->Prop
noncomputable def PIE (X:Cx)(pins:List (Addr×Obj))(σ:St)(tg:Expr)(R:It->Hp->Prop)(itv:Value)(s2:Shared):Prop:=
 ∃(it:Addr) (fp:List Addr) (tn:Nat->Heap->Prop) (J:It) (H':Hp),itv= .ref it/\Inv X pins σ H' s2/\Turn X.prog X.w X.K tg J fp it tn/\tn 0 s2.heap/\(∀b∈fp,Vu X pins H' b)/\R J H'
noncomputable def PI (X:Cx)(tg iter:Expr)(wi:TI):Prop:=
 ∀(pins:List (Addr×Obj)) (s:Shared) (σ:St) (H:Hp) (R:It->Hp->Prop),Inv X pins σ H s->wi σ H R->
  wpAny (model X.prog X.w) X.A (eval iter X.env) (λv s1=>wpAny (model X.prog X.w) X.A (pyIter v) (PIE X pins σ tg R) X.xe s1) X.xe s
theorem FN {M:Model}{A:Around}{E:Value->Shared->Prop}{s:Shared}{tg:Expr}{it:Addr}{u:Value}{o:Obj}{n:String}{vs:Array Value}{Q:Unit->Shared->Prop}(ho:s.heap.get? it=some o)(hc:o.cls= .type n)(hd:o.data= .fields vs)
    (hn: ["enumerate","zip","dict_itemiterator","dict_reverseitemiterator","odict_iterator","itertools.zip_longest","itertools.pairwise"].contains n=false)(hQ:Q () s):wpAny M A (letOwnedTupleGo tg (.ref it) u) Q E s:=by
  unfold letOwnedTupleGo
  cases tg<;> first
    |exact wpAny_pure hQ
    | (cases u<;> first
        |exact wpAny_pure hQ
        | (refine wpAny_bind (wpAny_load ho ?_)
           rw[hc,hd]
           show wpAny M A (if(["enumerate","zip","dict_itemiterator","dict_reverseitemiterator","odict_iterator","itertools.zip_longest","itertools.pairwise"].contains n&&vs[0]?==some (rawInt _))=true then _ else _) Q E s
           rw[if_neg (by intro h;rw[hn,Bool.false_and] at h;cases h)]
           exact wpAny_pure hQ))
noncomputable def Itl (K:PySem.W.Frag)(a:Addr):It:=
 ⟨λi H=>∃ xs x,SqL K H a xs/\xs[i]?=some x,λi H x H'=>H'=H/\∀xs,SqL K H a xs->xs[i]?=some x,λi H=>∃ xs,SqL K H a xs/\xs.length<=i⟩
noncomputable def Itt (K:PySem.W.Frag)(a:Addr):It:=
 ⟨λi H=>∃ xs x,SqT K H a xs/\xs[i]?=some x,λi H x H'=>H'=H/\∀xs,SqT K H a xs->xs[i]?=some x,λi H=>∃ xs,SqT K H a xs/\xs.length<=i⟩
noncomputable def Itr (lo:Int)(n:Nat):It:=⟨λi _=>i<n,λi H x H'=>H'=H/\x= .int (lo+i),λi _=>n<=i⟩
theorem UO {P:Program}{w:World}{K:PySem.W.Frag}{tg:Expr}(a it:Addr):Turn P w K tg (Itl K a) [it] it (λi h=>h.IsListIter it a i) where
 mem:=by simp
 obj:=λi h st b hb=>by
  have e:b=it:=by simpa using hb
  subst e
  obtain⟨o,e,c,d⟩:=st
  exact⟨o,e,λv z=>by rw[d] at z;cases z⟩
 keep:=λi h h' st k=>st.at λo e=>k it (by simp) o e
 item:=by
  intro X hP hw hK hc i pins s σ H E I hf st hg
  subst hP hw hK
  obtain⟨xs,x,hq,hx⟩:=hg
  obtain⟨its,rv,p,hz⟩:=I.list hq
  obtain⟨u,hu,ru⟩:=rv.get hx
  obtain⟨f0,f1,f2,f3,f4,f5⟩:=hf it (by simp)
  refine wpAny_pyNext_list_item st p.isList (x:=u) (by simpa using hu) λh' st' sb=>?_
  have I1:Inv X pins σ H {s with heap:=h'}:=I.turned (t':=s.toks) (λb o hb e=>(sb.2 b hb).trans e) f0 f1 f3 f4 f5
  obtain⟨o,e,c,d⟩:=id st'
  exact⟨u,rfl,FN (s:={s with heap:=h'}) e c d (by decide) ⟨x,H,I1,ru,⟨rfl,λys hy=>by rw[I.list_inj hy hq];exact hx⟩,st',λb hb=>(hf b hb).1⟩⟩
 done:=by
  intro X hP hw hK hc i pins s σ H E I hf st hg
  subst hP hw hK
  obtain⟨xs,hq,hx⟩:=hg
  obtain⟨its,rv,p,hz⟩:=I.list hq
  obtain⟨f0,f1,f2,f3,f4,f5⟩:=hf it (by simp)
  have hl:=rv.length
  exact wpAny_pyNext_list_end (I.ok.hd hc) st p.isList (by simp;omega) λh' eb=>⟨rfl,I.turned (t':=s.toks) (λb o hb e=>eb b o hb e) f0 f1 f3 f4 f5⟩
 self:=λ_ _ _ _ _ st h=>wpAny_pyIter_listiter st h
theorem Uf {P:Program}{w:World}{K:PySem.W.Frag}{tg:Expr}(a it:Addr):Turn P w K tg (Itt K a) [it] it (λi h=>h.IsTupleIter it a i) where
 mem:=by simp
 obj:=λi h st b hb=>by
  have e:b=it:=by simpa using hb
  subst e
  obtain⟨o,e,c,d⟩:=st
  exact⟨o,e,λv z=>by rw[d] at z;cases z⟩
 keep:=λi h h' st k=>st.at λo e=>k it (by simp) o e
 item:=by
  intro X hP hw hK hc i pins s σ H E I hf st hg
  subst hP hw hK
  obtain⟨xs,x,hq,hx⟩:=hg
  obtain⟨its,rv,p,hz⟩:=I.tuple hq
  obtain⟨u,hu,ru⟩:=rv.get hx
  obtain⟨f0,f1,f2,f3,f4,f5⟩:=hf it (by simp)
  refine wpAny_pyNext_tuple_item st (show s.heap.IsTuple a its.toArray from p) (x:=u) (by simpa using hu) λh' st' sb=>?_
  have I1:Inv X pins σ H {s with heap:=h'}:=I.turned (t':=s.toks) (λb o hb e=>(sb.2 b hb).trans e) f0 f1 f3 f4 f5
  obtain⟨o,e,c,d⟩:=id st'
  exact⟨u,rfl,FN (s:={s with heap:=h'}) e c d (by decide) ⟨x,H,I1,ru,⟨rfl,λys hy=>by rw[I.tuple_inj hy hq];exact hx⟩,st',λb hb=>(hf b hb).1⟩⟩
 done:=by
  intro X hP hw hK hc i pins s σ H E I hf st hg
  subst hP hw hK
  obtain⟨xs,hq,hx⟩:=hg
  obtain⟨its,rv,p,hz⟩:=I.tuple hq
  obtain⟨f0,f1,f2,f3,f4,f5⟩:=hf it (by simp)
  have hl:=rv.length
  exact wpAny_pyNext_tuple_end (I.ok.hd hc) st (show s.heap.IsTuple a its.toArray from p) (by simp;omega) λh' eb=>⟨rfl,I.turned (t':=s.toks) (λb o hb e=>eb b o hb e) f0 f1 f3 f4 f5⟩
 self:=λ_ _ _ _ _ st h=>wpAny_pyIter_tupleiter st h
theorem Uq {P:Program}{w:World}{K:PySem.W.Frag}{tg:Expr}(it:Addr)(lo:Int)(n:Nat):Turn P w K tg (Itr lo n) [it] it (λi h=>IsRangeIter h it (lo+(i:Nat)*1) ((n:Int)-(i:Nat)) 1) where
 mem:=by simp
 obj:=λi h st b hb=>by
  have e:b=it:=by simpa using hb
  subst e
  exact⟨_,st,λv z=>by
   have z':Data.fields _=Data.cell v:=z
   cases z'⟩
 keep:=λi h h' st k=>k it (by simp) _ st
 item:=by
  intro X hP hw hK hc i pins s σ H E I hf st hg
  subst hP hw hK
  obtain⟨f0,f1,f2,f3,f4,f5⟩:=hf it (by simp)
  have W:=Walks.range (prog:=X.prog) (w:=X.w) (I.ok.hd hc) it lo 1 n
  refine W.item i s _ _ hg st λv h' tk hv st' kk=>?_
  obtain⟨t,rfl⟩:=hv
  have I1:Inv X pins σ H {s with heap:=h',toks:=tk}:=I.turned (λb o hb e=>kk b o (by simpa using hb) e) f0 f1 f3 f4 f5
  refine⟨_,rfl,FN (s:={s with heap:=h',toks:=tk}) (n:="range_iterator") st' rfl rfl (by decide) ⟨.int (lo+i),H,I1,⟨t,?_⟩,⟨rfl,rfl⟩,st',λb hb=>(hf b hb).1⟩⟩
  rw[Int.mul_one]
 done:=by
  intro X hP hw hK hc i pins s σ H E I hf st hg
  subst hP hw hK
  obtain⟨f0,f1,f2,f3,f4,f5⟩:=hf it (by simp)
  exact wpAny_pyNext_range_end (I.ok.hd hc) st (by have:n<=i:=hg;omega) λh' eb=>⟨rfl,I.turned (t':=s.toks) (λb o hb e=>eb b o hb e) f0 f1 f3 f4 f5⟩
 self:=λ_ _ _ _ _ st h=>wpAny_pyIter_rangeiter st h
section
variable {X:Cx}{tg:Expr}
noncomputable def F3 (K:PySem.W.Frag)(tl:TE):TI:=λσ H R=>tl σ H λx H1=>∃ a,x= .ref a/\(∃xs,SqL K H1 a xs)/\R (Itl K a) H1
noncomputable def Bx (K:PySem.W.Frag)(tl:TE):TI:=λσ H R=>tl σ H λx H1=>∃ a,x= .ref a/\(∃xs,SqT K H1 a xs)/\R (Itt K a) H1
theorem Dj {l:Expr}{tl:TE}(hl:PE X l tl):PI X tg l (F3 X.K tl):=by
 intro pins s σ H R I h
 refine thn (hl pins s σ H _ I h) λv s1 r9=>?_
 obtain⟨x,H1,I1,r1,q1⟩:=r9
 obtain⟨a,e,⟨xs,hq⟩,q⟩:=q1
 subst e
 cases r1
 obtain⟨its,rv,p,hz⟩:=I1.list hq
 refine wpAny_pyIter_list p.isList ?_
 refine⟨s1.heap.objs.size,[s1.heap.objs.size],_,_,H1,rfl,I1.kept (t':=s1.toks) λb o e=>Heap.get?_push_of_some _ e,UO a _,⟨_,Heap.get?_push_size _ rfl,rfl,rfl⟩,λb hb=>?_,q⟩
 have e:b=s1.heap.objs.size:=by simpa using hb
 subst e
 exact I1.fpOk (Nat.le_refl _) (I1.hok.fresh (Nat.le_refl _))
theorem C4 {l:Expr}{tl:TE}(hl:PE X l tl):PI X tg l (Bx X.K tl):=by
 intro pins s σ H R I h
 refine thn (hl pins s σ H _ I h) λv s1 r9=>?_
 obtain⟨x,H1,I1,r1,q1⟩:=r9
 obtain⟨a,e,⟨xs,hq⟩,q⟩:=q1
 subst e
 cases r1
 obtain⟨its,rv,p,hz⟩:=I1.tuple hq
 refine wpAny_pyIter_tuple (show s1.heap.IsTuple a its.toArray from p) ?_
 refine⟨s1.heap.objs.size,[s1.heap.objs.size],_,_,H1,rfl,I1.kept (t':=s1.toks) λb o e=>Heap.get?_push_of_some _ e,Uf a _,⟨_,Heap.get?_push_size _ rfl,rfl,rfl⟩,λb hb=>?_,q⟩
 have e:b=s1.heap.objs.size:=by simpa using hb
 subst e
 exact I1.fpOk (Nat.le_refl _) (I1.hok.fresh (Nat.le_refl _))
theorem Gx {pins:List (Addr×Obj)}{σ:St}{H:Hp}{s:Shared}{R:It->Hp->Prop}{E:Value->Shared->Prop}{lo hi:Int}{t u v:Tok}{tk:Nat}(I:Inv X pins σ H s)(h1: -(2^62)<=lo)(h2:lo<2^62)(h3: -(2^62)<=hi)(h4:hi<2^62)
  (q:R (Itr lo (hi-lo).toNat) H):wpAny (model X.prog X.w) X.A (pyIter (.ref s.heap.objs.size)) (PIE X pins σ tg R) E {s with heap:=s.heap.push {cls:=.type "range",data:=.fields #[.int lo t, .int hi u, .int 1 v]},toks:=tk}:=by
 refine wpAny_pyIter_range (IsRange.new ..) (small_one h1 h2 h3 h4) ?_
 have I1:Inv X pins σ H {s with heap:=s.heap.push {cls:=.type "range",data:=.fields #[.int lo t, .int hi u, .int 1 v]},toks:=tk}:=I.kept λb o e=>Heap.get?_push_of_some _ e
 refine⟨(s.heap.push {cls:=.type "range",data:=.fields #[.int lo t, .int hi u, .int 1 v]}).objs.size,[(s.heap.push {cls:=.type "range",data:=.fields #[.int lo t, .int hi u, .int 1 v]}).objs.size],_,_,H,rfl,
  I1.kept (t':=tk) λb o e=>Heap.get?_push_of_some _ e,Uq _ lo (hi-lo).toNat,?_,λb hb=>?_,q⟩
 ·have e1:lo+((0:Nat):Int)*1=lo:=by simp
  have e2:(((hi-lo).toNat:Nat):Int)-((0:Nat):Int)=Builtin.Range.rangeSize lo hi 1:=by rw[rangeSize_one];split<;> omega
  show IsRangeIter _ _ (lo+((0:Nat):Int)*1) ((((hi-lo).toNat:Nat):Int)-((0:Nat):Int)) 1
  rw[e1,e2]
  exact Heap.get?_push_size _ rfl
 ·have e:b=(s.heap.push {cls:= .type "range",data:= .fields #[.int lo t, .int hi u, .int 1 v]}).objs.size:=by simpa using hb
  subst e
  exact I1.fpOk (Nat.le_refl _) (I1.hok.fresh (Nat.le_refl _))
noncomputable def CC (ta:TA):TI:=λσ H R=>ta σ H λvs H1=>∃ j:Int,vs=[.int j]/\ -(2^62)<=j/\j<2^62/\R (Itr 0 j.toNat) H1
theorem Zq {a:Expr}{ta:TA}{p pos:Pos}(hg:Gl X "range")(hm:X.mg "range" =none)(ha:PA X [a] ta)(hs:starEach [a] X.env=[(false,eval a X.env)]:=by rfl):PI X tg (.Call (.Name "range" p) [a] [] pos) (CC ta):=by
 intro pins s σ H R I h
 refine Call_ (VT I hg hm boot_range (PyProof.Rows.callWith_type1 (thn (ha pos pins s σ H _ I h) λus s1 r9=>?_) hs rfl))
 obtain⟨vs,H1,I1,r1,q1⟩:=r9
 obtain⟨j,e,q1,q2,q⟩:=q1
 subst e
 cases r1 with
 |cons r rr=>
  cases rr
  obtain⟨t,rfl⟩:=r
  exact call_range_1 (Gx I1 (by omega) (by omega) q1 q2 (by simpa using q))
noncomputable def By (wi:TI)(g:TG)(tb:TS):TS:=λD σ H=>wi σ H λJ H1=>∃ W:Nat->Nat->St->Hp->Prop,(∃m,W 0 m σ H1)/\∀i m σ H,W i m σ H->
 (J.stop i H/\D.nx σ H)∨(J.go i H/\∃N:St->Hp->Prop,(∀σ' H',N σ' H'->∃m',m'<m/\W (i+1) m' σ' H')/\∀x H',J.yld i H x H'->g x σ H' λσ2 H2=>tb {D with nx:=N,ct:=N,bk:=D.nx} σ2 H2)
noncomputable def JI (fp:List Addr)(h:Heap):List (Addr×Obj):=fp.filterMap λb=>(h.get? b).map λo=>(b,o)
theorem ZA {fp:List Addr}{h:Heap}{b:Addr}{o:Obj}(hb:b∈fp)(e:h.get? b=some o):(b,o)∈JI fp h:=List.mem_filterMap.mpr ⟨b,hb,by rw[e];rfl⟩
theorem KC {fp:List Addr}{h:Heap}{p:Addr×Obj}(hp:p∈JI fp h):p.1∈fp/\h.get? p.1=some p.2:=by
 obtain⟨b,hb,e⟩:=List.mem_filterMap.mp hp
 cases q:h.get? b with
 |none=>rw[q] at e;cases e
 |some o=>
  rw[q] at e
  have e':(b,o)=p:=Option.some.inj e
  subst e'
  exact⟨hb,q⟩
theorem Inv.pinned {pins:List (Addr×Obj)}{σ:St}{H:Hp}{s:Shared}{fp:List Addr}(I:Inv X pins σ H s)(hf:∀b∈fp,Vu X pins H b)(ho:∀b∈fp,∃o,s.heap.get? b=some o/\∀v,o.data≠ .cell v):Inv X (pins++JI fp s.heap) σ H s:=
 I.pins_of λp hp=>(List.mem_append.mp hp).elim (λz=>I.pin p (List.mem_append_right _ z)) λz=>by
  obtain⟨hb,e⟩:=KC z
  obtain⟨f0,f1,f2,_⟩:=hf p.1 hb
  obtain⟨o,e',d⟩:=ho p.1 hb
  rw[e] at e';cases e'
  exact⟨e,f0,f1,f2,d⟩
theorem Inv.unpinned {pins pl:List (Addr×Obj)}{σ:St}{H:Hp}{s:Shared}(I:Inv X (pins++pl) σ H s):Inv X pins σ H s:=I.pins_of λp hp=>I.pin p (List.mem_append_right _ (List.mem_append_left _ hp))
theorem Ky {iter:Expr}{body:List Stmt}{wi:TI}{g:TG}{tb:TS}{pos:Pos}(hp:PassesOwn (model X.prog X.w) X.A X.env X.xe)(hc:X.calm=true)(hi:PI X tg iter wi)(hg:PG X tg g)(hb:PSs X body tb)
  (hs:∀x,foldedSetIterable iter X.env x=pure x:=by intro _;rfl):PS X (.For tg iter body [] pos) (By wi g tb):=by
 intro pins s σ H D I h
 refine wpAny_For (thn (hi pins s σ H _ I h) λv s1 h1=>thn h1 λitv s2 h2=>?_) hs
 obtain⟨it,fp,tn,J,H2,e,I2,T,st2,f2,W,⟨m0,w0⟩,turn⟩:=h2
 subst e
 -- what stays true of the iterator's objects through the loop
 have stat:∀{H':Hp},(∀b∈fp,H' b=none)->∀b∈fp,Vu X pins H' b:=λhn b hb=>⟨hn b hb,(f2 b hb).2⟩
 refine codeAny_forLoop_any (λn s'=>∃ i σ' H',Inv X pins σ' H' s'/\tn i s'.heap/\(∀b∈fp,H' b=none)/\W i n σ' H') ?_ m0 ⟨0,σ,H2,I2,st2,λb hb=>(f2 b hb).1,w0⟩
 rintro n s3 ⟨i,σ3,H3,I3,st3,fr3,w3⟩
 rcases turn i n σ3 H3 w3 with⟨stop,qn⟩ | ⟨go,N,hN,step⟩
 ·refine wpAny_passesOwn hp (thn (T.done X rfl rfl rfl hc i pins s3 σ3 H3 X.xe I3 (stat fr3) st3 stop) λr s4 r9=>?_)
  obtain⟨hr,I4⟩:=r9
  subst hr
  exact wpAny_execs_nil ⟨σ3,H3,I4,qn⟩
 ·refine wpAny_passesOwn hp (thn (T.item X rfl rfl rfl hc i pins s3 σ3 H3 X.xe I3 (stat fr3) st3 go) λr s4 r9=>?_)
  obtain⟨u,hr,h4⟩:=r9
  subst hr
  refine wpAny_passesOwn hp (thn h4 λ_ s5 r9=>?_)
  obtain⟨x,H5,I5,r5,y5,st5,fr5⟩:=r9
  have I5':=I5.pinned (stat fr5) (T.obj _ _ st5)
  refine wpAny_passesOwn hp (thn (hg _ s5 σ3 H5 x u _ I5' r5 (step x H5 y5)) λ_ s6 r9=>?_)
  obtain⟨σ6,H6,I6,q6⟩:=r9
  refine wpAny_passesOwn hp (thn (hb _ s6 σ6 H6 _ I6 q6) λf s7 q7=>?_)
  have again:∀{σ7:St}{H7:Hp},Inv X (pins++JI fp s5.heap) σ7 H7 s7->N σ7 H7->∃m,m<n/\∃i σ' H',Inv X pins σ' H' s7/\tn i s7.heap/\(∀b∈fp,H' b=none)/\W i m σ' H':=fun {σ7 H7} I7 n7=>by
   obtain⟨m',hm,w7⟩:=hN σ7 H7 n7
   refine⟨m',hm,i+1,σ7,H7,I7.unpinned,T.keep _ _ _ st5 λb hb o e=>(I7.pin (b,o) (List.mem_append_right _ (List.mem_append_right _ (ZA hb e)))).1,λb hb=>?_,w7⟩
   obtain⟨o,e,d⟩:=T.obj _ _ st5 b hb
   exact(I7.pin (b,o) (List.mem_append_right _ (List.mem_append_right _ (ZA hb e)))).2.1
  cases f with
  |next=>obtain⟨σ7,H7,I7,n7⟩:=q7;exact again I7 n7
  |cont=>obtain⟨σ7,H7,I7,n7⟩:=q7;exact again I7 n7
  |brk=>obtain⟨σ7,H7,I7,q7⟩:=q7;exact⟨σ7,H7,I7.unpinned,q7⟩
  |ret v=>obtain⟨x7,σ7,H7,I7,r7,q7⟩:=q7;exact⟨x7,σ7,H7,I7.unpinned,r7,q7⟩
end
noncomputable abbrev R2:=V->V->Hp->VK->Prop
noncomputable def OpR (X:Cx)(f:Value->Value->Sem Value)(r:R2):Prop:=
 ∀(pins:List (Addr×Obj)) (s:Shared) (σ:St) (H:Hp) (x y:V) (v u:Value) (Q:VK),Inv X pins σ H s->XV x v->XV y u->r x y H Q->
  wpAny (model X.prog X.w) X.A (f v u) (EP X pins σ Q) X.xe s
noncomputable def UnR (X:Cx)(f:Value->Sem Value)(r:V->Hp->VK->Prop):Prop:=
 ∀(pins:List (Addr×Obj)) (s:Shared) (σ:St) (H:Hp) (x:V) (v:Value) (Q:VK),Inv X pins σ H s->XV x v->r x H Q->
  wpAny (model X.prog X.w) X.A (f v) (EP X pins σ Q) X.xe s
noncomputable def Y9 (X:Cx)(f:Value)(r:List V->Hp->VK->Prop):Prop:=
 ∀(pins:List (Addr×Obj)) (s:Shared) (σ:St) (H:Hp) (xs:List V) (us:List Value) (Q:VK),Inv X pins σ H s->XJ xs us->r xs H Q->
  wpAny (model X.prog X.w) X.A (call f us) (EP X pins σ Q) X.xe s
noncomputable def tOp (r:R2)(ta tb:TE):TE:=λσ H Q=>ta σ H λx H1=>tb σ H1 λy H2=>r x y H2 Q
noncomputable def tUn (r:V->Hp->VK->Prop)(ta:TE):TE:=λσ H Q=>ta σ H λx H1=>r x H1 Q
noncomputable def rI (C:Int->Int->Prop)(g:Int->Int->V):R2:=λx y H Q=>∃ i j,x= .int i/\y= .int j/\C i j/\Q (g i j) H
noncomputable def rI0 (g:Int->Int->V):R2:=λx y H Q=>∃ i j,x= .int i/\y= .int j/\Q (g i j) H
noncomputable def rU (g:Int->V):V->Hp->VK->Prop:=λx H Q=>∃ i,x= .int i/\Q (g i) H
section
variable {X:Cx}{a b c:Expr}{ta tb tc:TE}{pos:Pos}
theorem Bu (ha:PE X a ta)(hb:PE X b tb){pins:List (Addr×Obj)}{s:Shared}{σ:St}{H:Hp}{R:V->V->Hp->Prop}(I:Inv X pins σ H s)
  (h:ta σ H λx H1=>tb σ H1 λy H2=>R x y H2){Q:Value->Shared->Prop}{f:Value->Value->Sem Value}
  (hf:∀v u s2 x y H2,Inv X pins σ H2 s2->XV x v->XV y u->R x y H2->wpAny (model X.prog X.w) X.A (f v u) Q X.xe s2):
  wpAny (model X.prog X.w) X.A (eval a X.env) (λv s₁=>wpAny (model X.prog X.w) X.A (eval b X.env) (λu s₂=>wpAny (model X.prog X.w) X.A (f v u) Q X.xe s₂) X.xe s₁) X.xe s:=by
 refine thn (ha pins s σ H _ I h) λv s1 r9=>?_
 obtain⟨x,H1,I1,r1,q1⟩:=r9
 refine thn (hb pins s1 σ H1 _ I1 q1) λu s2 r9=>?_
 obtain⟨y,H2,I2,r2,q2⟩:=r9
 exact hf v u s2 x y H2 I2 r1 r2 q2
theorem Xy {op:Operator}{r:R2}(ho:OpR X (binaryOp op) r)(ha:PE X a ta)(hb:PE X b tb):PE X (.BinOp a op b pos) (tOp r ta tb):=by
 intro pins s σ H Q I h
 exact wpAny_BinOp (Bu ha hb I h λv u s2 x y H2 I2 rx ry q=>ho pins s2 σ H2 x y v u Q I2 rx ry q)
theorem DY {op:UnaryOp}{r:V->Hp->VK->Prop}(ho:UnR X (unaryOp op) r)(ha:PE X a ta):PE X (.UnaryOp op a pos) (tUn r ta):=by
 intro pins s σ H Q I h
 exact UnaryOp_ (thn (ha pins s σ H _ I h) λv s1 r9=>by obtain⟨x,H1,I1,r1,q1⟩:=r9;exact ho pins s1 σ H1 x v Q I1 r1 q1)
theorem opI {f:Value->Value->Sem Value}{C:Int->Int->Prop}{g:Int->Int->Int}
  (rule:∀(i j:Int) (t u:Tok) (s:Shared) (Q:Value->Shared->Prop) (E:Value->Shared->Prop),C i j->Q (.int (g i j) s.toks) {s with toks:=s.toks+1}->wpAny (model X.prog X.w) X.A (f (.int i t) (.int j u)) Q E s):
  OpR X f (rI C λi j=>.int (g i j)):=by
 intro pins s σ H x y v u Q I rx ry h
 obtain⟨i,j,rfl,rfl,hc,q⟩:=h
 obtain⟨t,rfl⟩:=rx
 obtain⟨t',rfl⟩:=ry
 exact rule i j t t' s _ _ hc ⟨.int (g i j),H,I.tok _,⟨_,rfl⟩,q⟩
theorem B5 {f:Value->Value->Sem Value}{g:Int->Int->Int}
  (rule:∀(i j:Int) (t u:Tok) (s:Shared) (Q:Value->Shared->Prop) (E:Value->Shared->Prop),Q (.int (g i j) s.toks) {s with toks:=s.toks+1}->wpAny (model X.prog X.w) X.A (f (.int i t) (.int j u)) Q E s):
  OpR X f (rI0 λi j=>.int (g i j)):=by
 intro pins s σ H x y v u Q I rx ry h
 obtain⟨i,j,rfl,rfl,q⟩:=h
 obtain⟨t,rfl⟩:=rx
 obtain⟨t',rfl⟩:=ry
 exact rule i j t t' s _ _ ⟨.int (g i j),H,I.tok _,⟨_,rfl⟩,q⟩
theorem BK {f:Value->Value->Sem Value}{g:Int->Int->Bool}
  (rule:∀(i j:Int) (t u:Tok) (s:Shared) (Q:Value->Shared->Prop) (E:Value->Shared->Prop),Q (.bool (g i j)) s->wpAny (model X.prog X.w) X.A (f (.int i t) (.int j u)) Q E s):
  OpR X f (rI0 λi j=>.bl (g i j)):=by
 intro pins s σ H x y v u Q I rx ry h
 obtain⟨i,j,rfl,rfl,q⟩:=h
 obtain⟨t,rfl⟩:=rx
 obtain⟨t',rfl⟩:=ry
 exact rule i j t t' s _ _ ⟨.bl (g i j),H,I,rfl,q⟩
noncomputable def BW (i j:Int):Prop:=0<=j/\j<=1000000/\i.natAbs<2^64
noncomputable def Bl (i j:Int):Prop:=(-(2^64)<i/\i<2^64)∨(-(2^64)<j/\j<2^64)
theorem Bl.ok {i j:Int}(h:Bl i j):IntMulOk i j:=by
 rcases h with⟨h1,h2⟩ | ⟨h1,h2⟩
 ·exact .of_left (intBits_le_64 h1 h2)
 ·exact .of_right (intBits_le_64 h1 h2)
theorem Yz:OpR X (binaryOp .Add) (rI0 λi j=>.int (i+j)):=B5 λ_ _ _ _ _ _ _ q=>add_int q
theorem Fq:OpR X (binaryOp .Sub) (rI0 λi j=>.int (i-j)):=B5 λ_ _ _ _ _ _ _ q=>sub_int q
theorem YU:OpR X (binaryOp .Mult) (rI Bl λi j=>.int (i*j)):=opI λ_ _ _ _ _ _ _ hc q=>mul_int q hc.ok
theorem Y1:OpR X (binaryOp .Mod) (rI (λ_ j=>0<j) λi j=>.int (i % j)):=opI λi j _ _ _ _ _ hc q=>by
 have h1:(0:Int)<j:=hc
 exact mod_int' (by omega) (by rw[Int.fmod_eq_emod_of_nonneg i (by omega)];exact q)
theorem ZN:OpR X (binaryOp .Pow) (rI BW λi j=>.int (i^j.toNat)):=opI λ_ _ _ _ _ _ _ hc q=>pow_int_small hc.1 hc.2.1 hc.2.2 q
theorem unI {f:Value->Sem Value}{g:Int->Int}
  (rule:∀(i:Int) (t:Tok) (s:Shared) (Q:Value->Shared->Prop) (E:Value->Shared->Prop),Q (.int (g i) s.toks) {s with toks:=s.toks+1}->wpAny (model X.prog X.w) X.A (f (.int i t)) Q E s):
  UnR X f (rU λi=>.int (g i)):=by
 intro pins s σ H x v Q I rx h
 obtain⟨i,rfl,q⟩:=h
 obtain⟨t,rfl⟩:=rx
 exact rule i t s _ _ ⟨.int (g i),H,I.tok _,⟨_,rfl⟩,q⟩
theorem Fg:UnR X (unaryOp .USub) (rU λi=>.int (-i)):=unI λ_ _ _ _ _ q=>neg_int q
end
noncomputable def BD:V->V->Bool
 | .non, .non=>true | .non, .int _=>true | .int _, .non=>true | .non, .bl _=>true | .bl _, .non=>true | .non, .str _=>true | .str _, .non=>true
 | .int _, .int _=>true | .bl _, .bl _=>true | .str _, .str _=>true | .byt _, .byt _=>true
 | .int _, .str _=>true | .str _, .int _=>true | .bl _, .str _=>true | .str _, .bl _=>true
 |_,_=>false
noncomputable def rEq:R2:=λx y H Q=>BD x y=true/\Q (.bl (decide (x=y))) H
noncomputable def rNe:R2:=λx y H Q=>BD x y=true/\Q (.bl (!decide (x=y))) H
theorem KR {i j:Int}:decide (V.int i=V.int j)=(i==j):=by
 rw[Bool.eq_iff_iff]
 simp
theorem G6 {i j:Bool}:decide (V.bl i=V.bl j)=(i==j):=by
 rw[Bool.eq_iff_iff]
 simp
theorem Kv {i j:Str}:decide (V.str i=V.str j)=(i==j):=by
 rw[Bool.eq_iff_iff]
 simp
theorem Kq {i j:Array UInt8}:decide (V.byt i=V.byt j)=(i.toList==j.toList):=by
 rw[Bool.eq_iff_iff]
 cases i
 cases j
 simp
section
variable {X:Cx}{a b c:Expr}{ta tb tc:TE}{pos:Pos}
theorem XD {pins:List (Addr×Obj)}{σ:St}{H:Hp}{s:Shared}{Q:VK}{k k':Bool}(I:Inv X pins σ H s)(q:Q (.bl k) H)(e:k=k'):EP X pins σ Q (.bool k') s:=by
 subst e
 exact⟨.bl k,H,I,rfl,q⟩
theorem ZU:OpR X (compareOp .Eq) rEq:=by
 intro pins s σ H x y v u Q I rx ry h
 obtain⟨hs,q⟩:=h
 cases x with
 |non=>
  cases rx
  cases y with
  |non=>cases ry;exact PySem.EqNone.eq_none_none (XD I q (by simp))
  |bl j=>cases ry;exact PySem.EqNone.eq_none_bool (XD I q (by simp))
  |int j=>obtain⟨t',rfl⟩:=ry;exact PySem.EqNone.eq_none_int (XD I q (by simp))
  |str j=>obtain⟨t',rfl⟩:=ry;exact PySem.EqNone.eq_none_str (XD I q (by simp))
  |_=>exact absurd (show false=true from hs) Bool.false_ne_true
 |bl i=>
  cases rx
  cases y with
  |non=>cases ry;exact PySem.EqNone.eq_bool_none (XD I q (by simp))
  |bl j=>cases ry;exact eq_bool (XD I q G6)
  |str j=>obtain⟨t',rfl⟩:=ry;exact PySem.EqMixed.eq_bool_str (XD I q (by simp))
  |_=>exact absurd (show false=true from hs) Bool.false_ne_true
 |int i=>
  obtain⟨t,rfl⟩:=rx
  cases y with
  |non=>cases ry;exact PySem.EqNone.eq_int_none (XD I q (by simp))
  |int j=>obtain⟨t',rfl⟩:=ry;exact eq_int (XD I q KR)
  |str j=>obtain⟨t',rfl⟩:=ry;exact PySem.EqMixed.eq_int_str (XD I q (by simp))
  |_=>exact absurd (show false=true from hs) Bool.false_ne_true
 |str i=>
  obtain⟨t,rfl⟩:=rx
  cases y with
  |non=>cases ry;exact PySem.EqNone.eq_str_none (XD I q (by simp))
  |bl j=>cases ry;exact PySem.EqMixed.eq_str_bool (XD I q (by simp))
  |int j=>obtain⟨t',rfl⟩:=ry;exact PySem.EqMixed.eq_str_int (XD I q (by simp))
  |str j=>obtain⟨t',rfl⟩:=ry;exact eq_str (XD I q Kv)
  |_=>exact absurd (show false=true from hs) Bool.false_ne_true
 |byt i=>
  obtain⟨t,rfl⟩:=rx
  cases y with
  |byt j=>obtain⟨t',rfl⟩:=ry;exact PySem.W.eq_bytes (XD I q Kq)
  |_=>exact absurd (show false=true from hs) Bool.false_ne_true
 |_=>cases y<;> exact absurd (show false=true from hs) Bool.false_ne_true
theorem J9:OpR X (compareOp .NotEq) rNe:=by
 intro pins s σ H x y v u Q I rx ry h
 obtain⟨hs,q⟩:=h
 cases x with
 |non=>
  cases rx
  cases y with
  |non=>cases ry;exact PySem.EqNone.ne_none_none (XD I q (by simp))
  |bl j=>cases ry;exact PySem.EqNone.ne_none_bool (XD I q (by simp))
  |int j=>obtain⟨t',rfl⟩:=ry;exact PySem.EqNone.ne_none_int (XD I q (by simp))
  |str j=>obtain⟨t',rfl⟩:=ry;exact PySem.EqNone.ne_none_str (XD I q (by simp))
  |_=>exact absurd (show false=true from hs) Bool.false_ne_true
 |bl i=>
  cases rx
  cases y with
  |non=>cases ry;exact PySem.EqNone.ne_bool_none (XD I q (by simp))
  |bl j=>cases ry;exact ne_bool (XD I q (congrArg not G6))
  |str j=>obtain⟨t',rfl⟩:=ry;exact PySem.EqMixed.ne_bool_str (XD I q (by simp))
  |_=>exact absurd (show false=true from hs) Bool.false_ne_true
 |int i=>
  obtain⟨t,rfl⟩:=rx
  cases y with
  |non=>cases ry;exact PySem.EqNone.ne_int_none (XD I q (by simp))
  |int j=>obtain⟨t',rfl⟩:=ry;exact ne_int (XD I q (congrArg not KR))
  |str j=>obtain⟨t',rfl⟩:=ry;exact PySem.EqMixed.ne_int_str (XD I q (by simp))
  |_=>exact absurd (show false=true from hs) Bool.false_ne_true
 |str i=>
  obtain⟨t,rfl⟩:=rx
  cases y with
  |non=>cases ry;exact PySem.EqNone.ne_str_none (XD I q (by simp))
  |bl j=>cases ry;exact PySem.EqMixed.ne_str_bool (XD I q (by simp))
  |int j=>obtain⟨t',rfl⟩:=ry;exact PySem.EqMixed.ne_str_int (XD I q (by simp))
  |str j=>obtain⟨t',rfl⟩:=ry;exact ne_str (XD I q (congrArg not Kv))
  |_=>exact absurd (show false=true from hs) Bool.false_ne_true
 |byt i=>
  obtain⟨t,rfl⟩:=rx
  cases y with
  |byt j=>obtain⟨t',rfl⟩:=ry;exact PySem.W.ne_bytes (XD I q (congrArg not Kq))
  |_=>exact absurd (show false=true from hs) Bool.false_ne_true
 |_=>cases y<;> exact absurd (show false=true from hs) Bool.false_ne_true
theorem F8:OpR X (compareOp .Lt) (rI0 λi j=>.bl (decide (i<j))):=BK λ_ _ _ _ _ _ _ q=>lt_int q
theorem GT:OpR X (compareOp .Gt) (rI0 λi j=>.bl (decide (j<i))):=BK λ_ _ _ _ _ _ _ q=>gt_int q
theorem BB:OpR X (compareOp .GtE) (rI0 λi j=>.bl (decide (j<=i))):=BK λ_ _ _ _ _ _ _ q=>ge_int q
theorem OpR.or {f:Value->Value->Sem Value}{r r':R2}(h:OpR X f r)(h':OpR X f r'):OpR X f (λx y H Q=>r x y H Q∨r' x y H Q):=by
 intro pins s σ H x y v u Q I rx ry q
 rcases q with q |q
 ·exact h pins s σ H x y v u Q I rx ry q
 ·exact h' pins s σ H x y v u Q I rx ry q
theorem XH (b:Expr){op:CmpOp}(h:op≠ .In:=by decide)(h2:op≠ .NotIn:=by decide):behindInMarks op b=false:=by
 have e1:(op==CmpOp.In)=false:=by cases op<;> first |rfl |exact absurd rfl h
 have e2:(op==CmpOp.NotIn)=false:=by cases op<;> first |rfl |exact absurd rfl h2
 cases b<;> simp[behindInMarks,e1,e2]
theorem ZB {op:CmpOp}{r:R2}(ho:OpR X (compareOp op) r)(ha:PE X a ta)(hb:PE X b tb)(hm:behindInMarks op b=false):PE X (.Compare a [op] [b] pos) (tOp r ta tb):=by
 intro pins s σ H Q I h
 exact wpAny_Compare1 (Bu ha hb I h λv u s2 x y H2 I2 rx ry q=>ho pins s2 σ H2 x y v u Q I2 rx ry q) hm
noncomputable def Cb (t:TE):TT:=λσ H Q=>t σ H λx H'=>∃ k,x= .bl k/\Q k H'
theorem XB {op:CmpOp}{r:R2}(ho:OpR X (compareOp op) r)(ha:PE X a ta)(hb:PE X b tb)(hm:behindInMarks op b=false):PT X (.Compare a [op] [b] pos) (Cb (tOp r ta tb)):=by
 intro pins s σ H Q I h
 refine wpAny_isTrue_Compare1 (thn (ha pins s σ H _ I h) λv s1 ⟨x,H1,I1,r1,q1⟩=>thn (hb pins s1 σ H1 _ I1 q1) λu s2 ⟨y,H2,I2,r2,q2⟩=>
  thn (ho pins s2 σ H2 x y v u _ I2 r1 r2 q2) λc s3 ⟨z,H3,I3,r3,k,e,q3⟩=>?_) hm
 subst e
 cases r3
 exact wpAny_truthy_bool ⟨H3,I3,q3⟩
theorem VX:(sizeLine:Nat)<2^63:=by rw[sizeLine_eq];decide
theorem Uh {x:V}{us:List Value}(r:XJ [x] us):∃u,us=[u]/\XV x u:=by
 cases r with
 |cons r1 r2=>cases r2;exact⟨_,rfl,r1⟩
theorem GD:Y9 X (.builtin "abs") (λxs H Q=>∃ i,xs=[.int i]/\Q (.int (if i<0 then-i else i)) H):=by
 intro pins s σ H xs us Q I r h
 obtain⟨i,rfl,q⟩:=h
 obtain⟨u,rfl,t,rfl⟩:=Uh r
 exact call_abs_int λu tk=>⟨.int (if i<0 then-i else i),H,I.tok _,⟨_,rfl⟩,q⟩
theorem YV:Y9 X (.type "str") (λxs H Q=>∃ i,xs=[.int i]/\i.natAbs.log2<1920/\Q (.str (toString i)) H):=by
 intro pins s σ H xs us Q I r h
 obtain⟨i,rfl,hz,q⟩:=h
 obtain⟨u,rfl,t,rfl⟩:=Uh r
 exact PySem.P.str_of_int hz ⟨.str _,H,I.tok _,⟨_,rfl⟩,q⟩
end
structure ObjM (h:Heap)(x dx C:Addr)(mA:Str->Option Value):Prop where
 obj:h.get? x=some (PySem.W.instObj C dx)
 ns:h.Ns1 dx mA
 ne:dx≠x
theorem K4 {h:Heap}{dx:Addr}{mA:Str->Option Value}(n:h.Ns1 dx mA):∃od,h.get? dx=some od/\∀name,PySem.W.lookIn name od=some (mA name):=by
 obtain⟨o,es,ep,ho,hd,hk,_,hm⟩:=n
 refine⟨o,ho,λname=>?_⟩
 have e:=hm name
 unfold nsFind findBy at e
 rw[←Array.find?_toList] at e
 unfold PySem.W.lookIn
 rw[hd]
 dsimp only
 split
 ·rename_i y q
  rw[q] at e
  exact congrArg some e
 ·rename_i q
  rw[q] at e
  have a:es.toList.any (·.refKey)=false:=by
   rw[List.any_eq_false]
   intro y hy
   obtain⟨z,t,hkey⟩:=hk y (Array.mem_toList_iff.mp hy)
   simp[DictEntry.refKey,hkey]
  have a':¬es.toList.any (·.refKey)=true:=by rw[a];exact Bool.false_ne_true
  rw[if_neg a']
  exact congrArg some e
theorem ObjM.look {h:Heap}{x dx C:Addr}{mA:Str->Option Value}(I:ObjM h x dx C mA):∃od,PySem.W.InstAt h x (PySem.W.instObj C dx) C (some od)/\∀name,PySem.W.lookIn name od=some (mA name):=
 let ⟨od,ho,hl⟩:=K4 I.ns
 ⟨od,⟨I.obj,rfl,rfl,ho⟩,hl⟩
section
variable {prog:Program}{w:World}{A:Around}{E:Value->Shared->Prop}{s:Shared}{K:PySem.W.Frag}{x dx C f:Addr}{mA:Str->Option Value}{name:Str}{v:Value}
end
theorem Uy.some_of {v:V}{o:Option Value}(r:Uy (some v) o):∃u,o=some u/\XV v u:=by
 cases o with
 |none=>exact(show False from r).elim
 |some u=>exact⟨u,rfl,r⟩
section
variable {P:Program}{w:World}{H H':Hp}{h h':Heap}{a C dx:Addr}{fs fs':List (Str×V)}
theorem Dd (hok:HOk P w H h)(e:H a=some (.ins C dx fs)):∃mA,ObjM h a dx C mA/\(∀f,Uy (fs.lookup f) (mA f))/\PySem.Within mA (fs.map (·.1))/\fs.length<=1000/\H dx=some (.own a):=by
 obtain⟨d,z,ne,ob,mA,n,r,q⟩:=(show Yh P w H h a (.ins C dx fs) from hok a _ e)
 exact⟨mA,⟨ob,n,ne⟩,r,q,z,d⟩
end
structure Cls (K:PySem.W.Frag)(C:Addr):Prop where
 pg:PySem.W.plainGet K C Str.empty=true
 hd:PySem.W.hasDictIn K C=true
 po:PySem.W.plainOver K C=true
 sa:PySem.W.findIn K (.ref C) "__setattr__" =some (some (.builtin "object.__setattr__"))
theorem Cls.get {K:PySem.W.Frag}{C:Addr}(c:Cls K C)(f:Str):PySem.W.plainGet K C f=true:=c.pg
section
variable {X:Cx}{pins:List (Addr×Obj)}{σ:St}{H:Hp}{s:Shared}{a C dx:Addr}{fs:List (Str×V)}{f:Str}{v:V}{A:Around}{E:Value->Shared->Prop}
theorem Inv.made (I:Inv X pins σ H s):Inv X pins σ (upd (upd H s.heap.objs.size (.own (s.heap.objs.size+1))) (s.heap.objs.size+1) (.ins C s.heap.objs.size []))
  {s with heap:=(s.heap.push PySem.W.emptyDict).push (PySem.W.instObj C s.heap.objs.size)}:=by
 have e1:(s.heap.push PySem.W.emptyDict).get? s.heap.objs.size=some PySem.W.emptyDict:=Heap.get?_push_size s.heap rfl
 have e2:((s.heap.push PySem.W.emptyDict).push (PySem.W.instObj C s.heap.objs.size)).get? (s.heap.objs.size+1)=some (PySem.W.instObj C s.heap.objs.size):=by
  have:=Heap.get?_push_size (s.heap.push PySem.W.emptyDict) (o:=PySem.W.instObj C s.heap.objs.size) rfl
  rwa [Heap.size_push] at this
 have e3:(s.heap.push PySem.W.emptyDict).Ns s.heap.objs.size (λ_=>none):=⟨PySem.W.emptyDict, #[],_,e1,rfl,(λe he=>absurd he (by simp)),λ_=>rfl⟩
 have I1:=I.laid (a:=s.heap.objs.size) (o:=.own (s.heap.objs.size+1)) (h':=s.heap.push PySem.W.emptyDict) (t':=s.toks) (λb u q=>Heap.get?_push_of_some _ q) (Nat.le_refl _) ⟨_,e1⟩
 refine I1.laid (a:=s.heap.objs.size+1) (o:=.ins C s.heap.objs.size []) (t':=s.toks) (λb u q=>Heap.get?_push_of_some _ q) (Nat.le_of_eq (Heap.size_push _ _)) ?_
 have ne:s.heap.objs.size≠s.heap.objs.size+1:=Nat.ne_of_lt (Nat.lt_succ_self _)
 refine⟨by rw[Xr ne,XU],Nat.zero_le _,ne,e2,λ_=>none,(Heap.Ns1.of_empty e3).at λo q=>Heap.get?_push_of_some _ q,λ_=>True.intro,λy hy=>absurd rfl hy⟩
end
section
variable {X:Cx}{o e value:Expr}{f:Str}{pos pos' tpos:Pos}{ta tv:TE}
end
section
variable {X:Cx}{pins:List (Addr×Obj)}{σ:St}{H:Hp}{s:Shared}{A:Around}{E:Value->Shared->Prop}{Q:Value->Shared->Prop}{c:Value}{b:Bool}
inductive TyOf (K:PySem.W.Frag)(H:Hp):V->Value->Prop where
 |non:TyOf K H .non (.type "NoneType")
 |bl (x:Bool):TyOf K H (.bl x) (.type "bool")
 |int (i:Int):TyOf K H (.int i) (.type "int")
 |str (x:Str):TyOf K H (.str x) (.type "str")
 |flt (x:UInt64):TyOf K H (.flt x) (.type "float")
 |lst {a:Addr}{xs:List V} (e:H a=some (.lst xs)):TyOf K H (.ref a) (.type "list")
 |frz {a:Addr}{o:Obj}{xs:List V} (e:H a=some (.frz o (.lst xs))):TyOf K H (.ref a) (.type "list")
 |tup {a:Addr}{xs:List V} (e:H a=some (.tup xs)):TyOf K H (.ref a) (.type "tuple")
 |dK {a:Addr}{kvs:List (Key×V)} (e:H a=some (.dK kvs)):TyOf K H (.ref a) (.type "dict")
 |dT {a:Addr}{kvs:List (List Key×V)} (e:H a=some (.dT kvs)):TyOf K H (.ref a) (.type "dict")
 |ins {a C dx:Addr}{fs:List (Str×V)} (e:H a=some (.ins C dx fs)) (cl:Cls K C) (ha:PySem.W.findIn K (.ref C) "__class__" =some (some (.builtin "object.__class__")))
   (hn:PySem.W.specialIn K (.builtin "object.__class__") "__get__" =some (some (.builtin "getset_descriptor.__get__"))) (htk:PySem.W.takesIn K (.builtin "object.__class__")=some true)
   (hm:PySem.W.mroIn K C (.type "object")=some true):TyOf K H (.ref a) (.ref C)
theorem US {x:V}{u t:Value}(I:Inv X pins σ H s)(rx:XV x u)(ty:TyOf X.K H x t)(e:PySem.W.kitOne X.K t c=some b)(h:∀tk,Q (.bool b) {s with toks:=tk}):
  wpAny (model X.prog X.w) A (call (.builtin "isinstance") [u,c]) Q E s:=by
 cases ty with
 |non=>cases(show u=Value.none from rx);exact PySem.W.kia_one PySem.W.kitx_none I.kIn True.intro e (λz=>nomatch z) h
 |bl y=>cases(show u=Value.bool y from rx);exact PySem.W.kia_one PySem.W.kitx_bool I.kIn True.intro e (λz=>nomatch z) h
 |int i=>obtain⟨t,q⟩:=(show ∃t,u=Value.int i t from rx);cases q;exact PySem.W.kia_one PySem.W.kitx_int I.kIn True.intro e (λz=>nomatch z) h
 |str y=>obtain⟨t,q⟩:=(show ∃t,u=Value.str y t from rx);cases q;exact PySem.W.kia_one PySem.W.kitx_str I.kIn True.intro e (λz=>nomatch z) h
 |flt y=>obtain⟨t,q⟩:=(show ∃t,u=Value.float y t from rx);cases q;exact PySem.W.kia_one PySem.W.kitx_float I.kIn True.intro e (λz=>nomatch z) h
 | @lst a xs ea=>
  cases(show u=Value.ref a from rx)
  obtain⟨_,_,n,_,h1⟩:=(show Yh X.prog X.w H s.heap a (.lst xs) from I.hok a _ ea)
  exact PySem.W.kia_one PySem.W.kitx_list I.kIn ⟨_,h1,rfl⟩ e (λz=>nomatch z) h
 | @frz a ob xs ea=>
  cases(show u=Value.ref a from rx)
  obtain⟨_,_,_,n,_,h1⟩:=(show Yh X.prog X.w H s.heap a (.frz ob (.lst xs)) from I.hok a _ ea)
  exact PySem.W.kia_one PySem.W.kitx_list I.kIn ⟨_,h1,rfl⟩ e (λz=>nomatch z) h
 | @tup a xs ea=>
  cases(show u=Value.ref a from rx)
  obtain⟨_,_,_,p⟩:=(show Yh X.prog X.w H s.heap a (.tup xs) from I.hok a _ ea)
  obtain⟨o,h1,h2,_⟩:=p
  exact PySem.W.kia_one PySem.W.kitx_tuple I.kIn ⟨o,h1,h2.1⟩ e (λz=>nomatch z) h
 | @dK a kvs ea=>
  cases(show u=Value.ref a from rx)
  obtain⟨_,_,vs,_,p⟩:=(show Yh X.prog X.w H s.heap a (.dK kvs) from I.hok a _ ea)
  obtain⟨o,es,ep,h1,h2,_⟩:=p
  exact PySem.W.kia_one PySem.W.kitx_dict I.kIn ⟨o,h1,h2.1⟩ e (λz=>nomatch z) h
 | @dT a kvs ea=>
  cases(show u=Value.ref a from rx)
  obtain⟨_,_,xs,_,o,es,ep,h1,h2,_⟩:=(show Yh X.prog X.w H s.heap a (.dT kvs) from I.hok a _ ea)
  exact PySem.W.kia_one PySem.W.kitx_dict I.kIn ⟨o,h1,h2.1⟩ e (λz=>nomatch z) h
 | @ins a C dx fs ea cl ha hn htk hm=>
  cases(show u=Value.ref a from rx)
  obtain⟨mA,O,_⟩:=Dd I.hok ea
  obtain⟨od,J,_⟩:=O.look
  exact PySem.W.kia_one (PySem.W.kitx_own (cl.get _) cl.hd ha hn htk hm) I.kIn J e (λz=>nomatch z) h
end
structure Room (k:Nat)(A:Around):Prop where
 hd:A.handled=none
 dp:A.depth+3*k+5<recursionLimit
 un:A.units+16*k+200<cLine
theorem Room.mono {j k:Nat}{A:Around}(r:Room k A)(h:j<=k):Room j A:=⟨r.hd,by have:=r.dp;omega,by have:=r.un;omega⟩
theorem Room.deeper {k:Nat}{A:Around}(r:Room (k+1) A)(env:Env):Room k (A.deeper env):=
 ⟨r.hd,by have:=r.dp;show A.depth+1+3*k+5<_;omega,by have:=r.un;show A.units+3+16*k+200<_;omega⟩
theorem Room.in1 {k:Nat}{A:Around}(r:Room (k+1) A):Room k A.in1:=
 ⟨r.hd,by have:=r.dp;show A.depth+3*k+5<_;omega,by have:=r.un;show A.units+1+16*k+200<_;omega⟩
theorem Room.depth {k:Nat}{A:Around}(r:Room k A):A.depth<recursionLimit:=by have:=r.dp;omega
theorem Room.units {k:Nat}{A:Around}(r:Room k A):A.units+64<cLine:=by have:=r.un;omega
noncomputable def Zs:TA:=λ_ H Q=>Q [] H
noncomputable def XQ (ta:TE)(tr:TA):TA:=λσ H Q=>ta σ H λx H1=>tr σ H1 λxs H2=>Q (x::xs) H2
section
variable {X:Cx}{e:Expr}{es:List Expr}{te:TE}{t:TA}{pos:Pos}
theorem Xf:PA X [] Zs:=λ_ _ _ _ H Q I h=>Calls.spliced_nil ⟨[],H,I, .nil,h⟩
theorem Xa (ha:PE X e te)(hr:PA X es t)(hs:starEach (e::es) X.env=(false,eval e X.env)::starEach es X.env:=by rfl):PA X (e::es) (XQ te t):=by
 intro pos pins s σ H Q I h
 rw[hs]
 show wpAny _ _ (spliced ((false,eval e X.env)::backTo pos (starEach es X.env))) _ _ s
 refine Calls.spliced_cons (thn (ha pins s σ H _ I h) λu s1 r9=>?_)
 obtain⟨x,H1,I1,r1,q1⟩:=r9
 exact thn (hr pos pins s1 σ H1 _ I1 q1) λus s2 r9=>by obtain⟨xs,H2,I2,r2,q2⟩:=r9;exact⟨x::xs,H2,I2, .cons r1 r2,q2⟩
noncomputable def Bm (t:TA):TE:=λσ H Q=>t σ H λxs H1=>xs.length<=sizeLine/\∀p,H1 p=none->Q (.ref p) (upd H1 p (.tup xs))
noncomputable def BC (t:TA):TE:=λσ H Q=>t σ H λxs H1=>xs.length<=sizeLine/\∀p,H1 p=none->Q (.ref p) (upd H1 p (.lst xs))
theorem YY {x1}(h:PA X es t):PE X (.Tuple es x1 pos) (Bm t):=by
 intro pins s σ H Q I hq
 refine wpAny_Tuple_spliced (thn (h pos pins s σ H _ I hq) λus s1 ⟨xs,H1,I1,r,z,q⟩=>⟨by rw[←r.length];exact z,?_⟩)
 have hf:H1 s1.heap.objs.size=none:=I1.hok.fresh (Nat.le_refl _)
 refine⟨.ref s1.heap.objs.size,upd H1 s1.heap.objs.size (.tup xs),I1.laid (t':=s1.toks) (λb u e=>Heap.get?_push_of_some _ e) (Nat.le_refl _) ?_,rfl,q _ hf⟩
 exact⟨z,us,r,⟨_,Heap.get?_push_size _ rfl,⟨rfl,rfl⟩,_,rfl⟩⟩
theorem X3 (h:PA X es t):PE X (.List es pos) (BC t):=by
 intro pins s σ H Q I hq
 refine wpAny_List_spliced (thn (h pos pins s σ H _ I hq) λus s1 ⟨xs,H1,I1,r,z,q⟩=>⟨by rw[←r.length];exact z,?_⟩)
 have hf:H1 s1.heap.objs.size=none:=I1.hok.fresh (Nat.le_refl _)
 refine⟨.ref s1.heap.objs.size,upd H1 s1.heap.objs.size (.lst xs),I1.laid (t':=s1.toks) (λb u e=>Heap.get?_push_of_some _ e) (Nat.le_refl _) ?_,rfl,q _ hf⟩
 exact⟨z,us,0,r,Heap.get?_push_size _ rfl⟩
end
noncomputable abbrev Sp:=List V->Hp->VK->XK->Prop
noncomputable abbrev CXT:=List Env->Hp->Shared->XK->Value->Shared->Prop
structure Env0 (P:Program)(w:World)(K:PySem.W.Frag)(mg:Str->Option Value)(base:Heap)(A:Around)(outer:List Env)(s:Shared)(H:Hp):Prop where
 frames:A.frames=some outer
 mod:Mod K mg base
 bs:∀b o,base.get? b=some o->s.heap.get? b=some o/\H b=none
 bsz:base.objs.size<=s.heap.objs.size
 funs:s.heap.FunFrames base outer
 frf:∀b∈frs outer,H b=none
 hok:HOk P w H s.heap
 bare:AllBare s.gens
noncomputable def CE (outer:List Env)(P:Program)(w:World)(H:Hp)(s:Shared)(Q:VK)(u:Value)(s':Shared):Prop:=
 ∃v H',s'.os=s.os/\AllBare s'.gens/\Un (frs outer) [] H H' s.heap s'.heap/\HOk P w H' s'.heap/\XV v u/\Q v H'
noncomputable def CR (CX:CXT)(outer:List Env)(P:Program)(w:World)(H:Hp)(s:Shared)(Q:VK)(E:XK)(r:Result)(s':Shared):Prop:=
 match r with
 | .ok (.ret u)=>CE outer P w H s Q u s'
 | .ok _=>False
 | .error e=>CX outer H s E e s'
structure FnOk (P:Program)(w:World)(K:PySem.W.Frag)(mg:Str->Option Value)(base:Heap)(CX:CXT)(k:Nat)(f:Addr)(fd:FuncData)(ps:List Str)(sp:Sp):Prop where
 len:∀vs H Q E,sp vs H Q E->vs.length=ps.length
 run:∀(A:Around) (outer:List Env) (s:Shared) (H:Hp) (args:Args) (us:List Value) (vs:List V) (Q:VK) (E:XK),Room k A->Env0 P w K mg base A outer s H->BindsTo s fd args (ps.zip us)->XJ vs us->sp vs H Q E->
  codeAny (model P w) A (.call (.ref f) args) (CR CX outer P w H s Q E) s
theorem FnOk.mono {P:Program}{w:World}{K:PySem.W.Frag}{mg:Str->Option Value}{base:Heap}{CX:CXT}{j k:Nat}{f:Addr}{fd:FuncData}{ps:List Str}{sp:Sp}(F:FnOk P w K mg base CX j f fd ps sp)(h:j<=k):
  FnOk P w K mg base CX k f fd ps sp:=⟨F.len,λA outer s H args us vs Q E hr=>F.run A outer s H args us vs Q E (hr.mono h)⟩
theorem FnOk.imp {P:Program}{w:World}{K:PySem.W.Frag}{mg:Str->Option Value}{base:Heap}{CX:CXT}{k:Nat}{f:Addr}{fd:FuncData}{ps:List Str}{sp sp':Sp}(F:FnOk P w K mg base CX k f fd ps sp)
  (h:∀vs H Q E,sp' vs H Q E->sp vs H Q E):FnOk P w K mg base CX k f fd ps sp':=
 ⟨λvs H Q E q=>F.len vs H Q E (h _ _ _ _ q),λA outer s H args us vs Q E hr he hb hv hs=>F.run A outer s H args us vs Q E hr he hb hv (h _ _ _ _ hs)⟩
theorem Env0.in1 {P:Program}{w:World}{K:PySem.W.Frag}{mg:Str->Option Value}{base:Heap}{A:Around}{outer:List Env}{s:Shared}{H:Hp}(e:Env0 P w K mg base A outer s H):
  Env0 P w K mg base A.in1 outer s H:=⟨e.frames,e.mod,e.bs,e.bsz,e.funs,e.frf,e.hok,e.bare⟩
section
variable {X:Cx}{pins:List (Addr×Obj)}{σ:St}{H:Hp}{s s':Shared}
theorem Inv.env0 (I:Inv X pins σ H s):Env0 X.prog X.w X.K X.mg X.base X.A X.stack s H:=
 ⟨I.ok.frames,I.ok.mod,I.bs,Nat.le_trans I.ok.bsz I.sz,I.stack,I.stkFree,I.hok,I.bare⟩
theorem Inv.after {Q:VK}{u:Value}(I:Inv X pins σ H s)(h:CE X.stack X.prog X.w H s Q u s'):EP X pins σ Q u s':=by
 obtain⟨v,H',os,bare,un,hok,r,q⟩:=h
 obtain⟨hh,g,d,t,os'⟩:=s'
 obtain rfl:os'=s.os:=os
 exact⟨v,H',I.call (h':=hh) (g':=g) (d':=d) (t':=t) (ch:=[]) un hok bare (λb z=>absurd z (by simp)),r,q⟩
end
noncomputable def Q7 (sp:Sp)(dvs:List V)(E:XK)(t:TA):TE:=λσ H Q=>t σ H λvs H1=>sp (vs++dvs) H1 Q E
noncomputable def JF (K:PySem.W.Frag)(fd:FuncData)(ps:List Str)(ds:List Value):Prop:=
 ∀(s:Shared) (us:List Value),K.In s.heap->(us++ds).length=ps.length->BindsTo s fd ⟨us,[]⟩ (ps.zip (us++ds))
theorem JF.all {K:PySem.W.Frag}{fd:FuncData}{ps:List Str}(h:∀us:List Value,us.length=ps.length->bindArgs fd ⟨us,[]⟩=pure (ps.zip us)):JF K fd ps []:=λs us _ hl=>by
 rw[List.append_nil] at hl⊢
 exact .of_eq (h us hl)
noncomputable def ZQ (CX:CXT)(X:Cx)(E:XK):Prop:=∀ (pins:List (Addr×Obj)) (σ:St) (H:Hp) (s:Shared) (e:Value) (s':Shared),Inv X pins σ H s->CX X.stack H s E e s'->X.xe e s'
section
variable {X:Cx}{CX:CXT}{k:Nat}{f C:Addr}{fd:FuncData}{ps:List Str}{sp:Sp}{dvs:List V}{ds:List Value}{E:XK}{x m:Str}{p pos apos:Pos}{e o:Expr}{es:List Expr}{ta:TE}{t:TA}
theorem Cv {pins:List (Addr×Obj)}{σ:St}{H:Hp}{s:Shared}{Q:VK}{us:List Value}{vs:List V}(F:FnOk X.prog X.w X.K X.mg X.base CX k f fd ps sp)(hr:Room k X.A)(hb:JF X.K fd ps ds)(hd:XJ dvs ds)(hx:ZQ CX X E)
  (I:Inv X pins σ H s)(r:XJ vs us)(h:sp (vs++dvs) H Q E):wpAny (model X.prog X.w) X.A (call (.ref f) us) (EP X pins σ Q) X.xe s:=by
 have r2:XJ (vs++dvs) (us++ds):=r.append hd
 have hl:(us++ds).length=ps.length:=by rw[←r2.length];exact F.len _ _ _ _ h
 refine wpAny_call (codeAny_mono (F.run X.A X.stack s H ⟨us,[]⟩ (us++ds) (vs++dvs) Q E hr I.env0 (hb s us I.kIn hl) r2 h) λr s' hq=>?_)
 cases r with
 |error e=>exact hx pins σ H s e s' I hq
 |ok fl=>
  cases fl with
  |ret u=>exact I.after hq
  |next=>exact False.elim hq
  |brk=>exact False.elim hq
  |cont=>exact False.elim hq
theorem KM (F:FnOk X.prog X.w X.K X.mg X.base CX k f fd ps sp)(hr:Room k X.A)(hg:Gl X x)(hm:X.mg x=some (.ref f))(hk:PySem.W.keepIn X.K (.ref f)=true)(hb:JF X.K fd ps ds)(hd:XJ dvs ds)(hx:ZQ CX X E)
  (ha:PA X (e::es) t)(hdb:(x==("__debug__":Str))=false:=by decide)(he:starEach (e::es) X.env=(false,eval e X.env)::starEach es X.env:=by rfl)(hpl:(backTo pos (starEach es X.env)).any (·.1)=false:=by rfl):
  PE X (.Call (.Name x p) (e::es) [] pos) (Q7 sp dvs E t):=by
 intro pins s σ H Q I h
 refine wpAny_Call_Name_kw (ZH I hg hm ?_ hdb)
 refine PySem.W.callWith_K (h₀:=X.base) I.ok.mod.kin hk (thn (ha pos pins s σ H _ I h) λus s1 ⟨vs,H1,I1,r,q⟩=>⟨I1.kIn,?_⟩) he hpl
 exact Cv F hr hb hd hx I1 r q
end
section
variable {X:Cx}{CX:CXT}{k:Nat}{f C:Addr}{fd:FuncData}{ps ks:List Str}{sp:Sp}{E:XK}{x m:Str}{p pos apos kpos:Pos}{e o:Expr}{es:List Expr}{kws:List Keyword}{te ta:TE}{t tk:TA}{nm:Option Str}
variable {g:List Value->List Value->List Value}{gV:List V->List V->List V}
end
structure FnScope (N P:List Str)(sc:Scope):Prop where
 kind:sc.kind= .function
 co:sc.isCoroutine=false
 gen:sc.isGenerator=false
 nd:N.Nodup
 pre:N.take P.length=P
 par:∀x∈P,sc.names.lookup x=some .local∨sc.names.lookup x=some .cell
 nofree:∀y∈sc.names,y.2≠ .free
theorem JX {kindOf:Str->Option NameKind}{x:Str}:∀{binds:List (Str×Value)}{m:Str->Option Value},(∀v,(x,v)∉binds)->bindL kindOf binds m x=m x
 | [],_,_=>rfl
 | (n,v)::r,m,h=>by
  unfold bindL
  rw[JX λw hw=>h w (List.mem_cons_of_mem _ hw)]
  split
  ·have:x≠n:=by rintro rfl;exact h v List.mem_cons_self
   simp[this]
  ·rfl
theorem JC {kindOf:Str->Option NameKind}{x:Str}:∀{binds:List (Str×Value)}{m:Str->Option Value},(∀v,(x,v)∉binds)->bindC kindOf binds m x=m x
 | [],_,_=>rfl
 | (n,v)::r,m,h=>by
  unfold bindC
  rw[JC λw hw=>h w (List.mem_cons_of_mem _ hw)]
  split
  ·rfl
  ·have:x≠n:=by rintro rfl;exact h v List.mem_cons_self
   simp[this]
theorem JZ {kindOf:Str->Option NameKind}{x:Str}{v:Value}:∀{P:List Str}{vs:List Value}{i:Nat}{m:Str->Option Value},P.Nodup->P[i]?=some x->vs[i]?=some v->kindOf x=some .local->
  bindL kindOf (P.zip vs) m x=some v
 | [],_,_,_,_,h,_,_=>by simp at h
 |_::_,[],_,_,_,_,h,_=>by simp at h
 |p::P,w::vs,0,m,nd,h1,h2,hk=>by
  simp at h1 h2;subst h1;subst h2
  show bindL kindOf ((p,w)::P.zip vs) m p=_
  unfold bindL
  rw[JX λv hv=>(List.nodup_cons.mp nd).1 (List.of_mem_zip hv).1,if_pos hk]
  simp
 |p::P,w::vs,i+1,m,nd,h1,h2,hk=>by
  show bindL kindOf ((p,w)::P.zip vs) m x=_
  unfold bindL
  exact JZ (i:=i) (List.nodup_cons.mp nd).2 (by simpa using h1) (by simpa using h2) hk
theorem Jx {kindOf:Str->Option NameKind}{x:Str}{v:Value}:∀{P:List Str}{vs:List Value}{i:Nat}{m:Str->Option Value},P.Nodup->P[i]?=some x->vs[i]?=some v->kindOf x≠some .local->
  bindC kindOf (P.zip vs) m x=some v
 | [],_,_,_,_,h,_,_=>by simp at h
 |_::_,[],_,_,_,_,h,_=>by simp at h
 |p::P,w::vs,0,m,nd,h1,h2,hk=>by
  simp at h1 h2;subst h1;subst h2
  show bindC kindOf ((p,w)::P.zip vs) m p=_
  unfold bindC
  rw[JC λv hv=>(List.nodup_cons.mp nd).1 (List.of_mem_zip hv).1,if_neg hk]
  simp
 |p::P,w::vs,i+1,m,nd,h1,h2,hk=>by
  show bindC kindOf ((p,w)::P.zip vs) m x=_
  unfold bindC
  exact Jx (i:=i) (List.nodup_cons.mp nd).2 (by simpa using h1) (by simpa using h2) hk
noncomputable def QB (N:List Str)(vs:List V):St:=vs.map some++List.replicate (N.length-vs.length) none
noncomputable def V7 (CX:CXT)(P:Program)(w:World)(K:PySem.W.Frag)(mg:Str->Option Value)(base:Heap)(N:List Str)(qual:Str)(scope:Scope)(f:Addr)(cd:Value)(A:Around)(outer:List Env)(s:Shared)(H:Hp)(E:XK):Cx where
 prog:=P
 w:=w
 K:=K
 mg:=mg
 base:=base
 A:=A.deeper (envOfC qual scope s.heap.objs.size f cd)
 N:=N
 s₀:=s
 H₀:=H
 env:=envOfC qual scope s.heap.objs.size f cd
 outer:=outer
 stack:=envOfC qual scope s.heap.objs.size f cd::outer
 ex:=[]
 calm:=true
 fn:=λ_=>true
 pn:=[]
 xe:=λe s'=>wpAny (model P w) (A.deeper (envOfC qual scope s.heap.objs.size f cd)) (leaving (envOfC qual scope s.heap.objs.size f cd) e) (λ_ s''=>CX outer H s E e s'') (λe' s''=>CX outer H s E e' s'') s'
theorem V9 {sc:Scope}{n:Nat}{x:Str}(h:sc.names.lookup x=some .cell):∃c,(cellsFrom n sc.names []).lookup x=some c:=by
 have q:=PySem.W.cellsFrom_some sc.names n [] (.inl h)
 exact Option.isSome_iff_exists.mp q
theorem Kr {CX:CXT}{P:Program}{w:World}{K:PySem.W.Frag}{mg:Str->Option Value}{base:Heap}{N ps:List Str}{qual:Str}{scope:Scope}{f:Addr}{cd:Value}{A:Around}{outer:List Env}{s s1:Shared}{H:Hp}{E:XK}{us:List Value}{vs:List V}
  (S:FnScope N ps scope)(hd:A.handled=none)(e0:Env0 P w K mg base A outer s H)(hl:vs.length=ps.length)(r:XJ vs us)
  (x:InCallC s s.heap.objs.size (bindL (envOfC qual scope s.heap.objs.size f cd).kindOf (ps.zip us) λ_=>none) (cellsFrom (s.heap.objs.size+1) scope.names []) (bindC (envOfC qual scope s.heap.objs.size f cd).kindOf (ps.zip us) λ_=>none) s1):
  Inv (V7 CX P w K mg base N qual scope f cd A outer s H E) [] (QB N vs) H s1:=by
 have hpl:ps.length<=N.length:=by have:=congrArg List.length S.pre;rw[List.length_take] at this;omega
 obtain⟨h1,tk,rfl,hk⟩:=x.done
 have noA:∀b:Addr,b∉(V7 CX P w K mg base N qual scope f cd A outer s H E).ex:=λb z=>absurd (show b∈([]:List Addr) from z) (by simp)
 refine⟨⟨e0.mod,S.kind,rfl,rfl,Nat.le_refl _,λy z c h1 h2=>?_,λy hy=>?_,λy c _ h=>?_,λ_=>hd,Around.frames_deeper e0.frames, .inr ⟨rfl,rfl⟩,λb z=>absurd z (noA b),e0.bs,e0.bsz,λb _ _=>noA b,λb z=>absurd z (noA b),e0.funs,e0.frf⟩,
  rfl,e0.bare,Un.kept hk,⟨_,x.toInCall.ns,λi y v h1 h2 h3=>?_⟩,λy c h=>⟨_,x.cell y c h⟩,e0.hok.fresh (Nat.le_refl _),λy c h=>?_,λp hp=>absurd (show p∈([]:List (Addr×Obj)) from hp) (by simp),e0.hok.kept hk,?_⟩
 ·exact name_of_addr x.apart (PySem.mem_of_lookup h1) (PySem.mem_of_lookup h2)
 ·have hy:scope.names.lookup y=some .cell∨scope.names.lookup y=some .free:=hy
  rcases hy with hy |hy
  ·exact V9 hy
  ·exact absurd rfl (S.nofree _ (PySem.mem_of_lookup hy))
 ·exact Nat.le_of_lt (x.above y c (PySem.mem_of_lookup h))
 ·have hi:i<vs.length:=by
   unfold QB at h2
   by_cases hi:i<vs.length
   ·exact hi
   ·rw[List.getElem?_append_right (by simpa using hi)] at h2
    rw[List.getElem?_replicate] at h2
    split at h2<;> cases h2
  have ha:vs[i]?=some v:=by
   unfold QB at h2
   rw[List.getElem?_append_left (by simpa using hi),List.getElem?_map] at h2
   cases e:vs[i]? with
   |none=>rw[e] at h2;cases h2
   |some a=>rw[e] at h2;cases h2;rfl
  obtain⟨u,hu,rv⟩:=r.get ha
  have hp:ps[i]?=some y:=by
   rw[←S.pre,List.getElem?_take_of_lt (by omega)];exact h1
  have ndP:ps.Nodup:=by rw[←S.pre];exact S.nd.sublist (List.take_sublist _ _)
  refine⟨u,rv,?_⟩
  rcases S.par y (List.mem_of_getElem? hp) with k |k
  ·exact .inl ⟨k,JZ ndP hp hu k⟩
  ·obtain⟨c,e⟩:=V9 (n:=s.heap.objs.size+1) k
   refine .inr ⟨.inl k,c,e,?_⟩
   have q:=x.cell y c e
   rw[Jx ndP hp hu (by show scope.names.lookup y≠_;rw[k];decide)] at q
   exact q
 ·exact e0.hok.fresh (Nat.le_of_lt (x.above y c (PySem.mem_of_lookup h)))
 ·unfold QB
  show _=N.length
  rw[List.length_append,List.length_map,List.length_replicate]
  omega
theorem DS {CX:CXT}{P:Program}{w:World}{K:PySem.W.Frag}{mg:Str->Option Value}{base:Heap}{k:Nat}{f:Addr}{name qual:Str}{params:Arguments}{body:List Stmt}{scope:Scope}{dV kV doc pm cdv ct oc:Value}{an od:Option Addr}
  {osl:Array (Option Value)}{N ps:List Str}{sp:Sp}(lk:K.lookup f=some ⟨oc,od, .func (PySem.W.fnOf name qual params body scope dV kV doc pm an cdv ct),osl⟩)(hcd:PySem.W.codeIn K cdv qual=true)(S:FnScope N ps scope)
  (len:∀vs H Q E,sp vs H Q E->vs.length=ps.length)
  (hbody:∀(A:Around) (outer:List Env) (s:Shared) (H:Hp) (vs:List V) (Q:VK) (E:XK),Room k (A.deeper (envOfC qual scope s.heap.objs.size f cdv))->sp vs H Q E->
   ∃t,PSs (V7 CX P w K mg base N qual scope f cdv A outer s H E) body t/\t {nx:=λ_ H'=>Q .non H',rt:=Q} (QB N vs) H):
  FnOk P w K mg base CX (k+1) f (PySem.W.fnOf name qual params body scope dV kV doc pm an cdv ct) ps sp:=by
 refine⟨len,λA outer s H args us vs Q E hr e0 hb r hsp=>?_⟩
 have hl:=len _ _ _ _ hsp
 have KX:K.In s.heap:=e0.mod.kin.keeps λb o e=>(e0.bs b o e).1
 have lim:s.heap.NoLimit:=e0.mod.nolimit.keeps λb o e=>(e0.bs b o e).1
 have hkind:∀y∈ps.zip us,scope.names.lookup y.1=some .local∨(scope.names.lookup y.1=some .cell/\((cellsFrom (s.heap.objs.size+1) scope.names []).lookup y.1).isSome=true):=λ⟨n,v⟩ hy=>by
  rcases S.par n (List.of_mem_zip hy).1 with q |q
  ·exact .inl q
  ·exact .inr ⟨q,PySem.W.cellsFrom_some _ _ _ (.inl q)⟩
 refine codeAny_call_function hr.depth (KX _ _ lk) rfl S.co S.gen rfl (PySem.W.codeRec_of KX hcd) (hb _ _ _ _ ?_)
 refine wpAny_newFunctionEnv_cells S.kind hkind λenv he s1 x=>?_
 subst he
 refine⟨lim.keeps x.toInCall.keep,codeAny_func ?_⟩
 obtain⟨t,ht,hq⟩:=hbody A outer s H vs Q E (hr.deeper _) hsp
 have I:Inv (V7 CX P w K mg base N qual scope f cdv A outer s H E) [] (QB N vs) H s1:=Kr S hr.hd e0 hl r x
 refine wpAny_mono (ht [] s1 (QB N vs) H _ I hq) (λfl s' hs=>?_) λe s' hs=>hs
 have fin:∀{σ':St}{H':Hp}{v:V}{u:Value},Inv (V7 CX P w K mg base N qual scope f cdv A outer s H E) [] σ' H' s'->XV v u->Q v H'->CE outer P w H s Q u s':=
  fun {σ' H' v u} J rv q=>⟨v,H',J.os,J.bare,J.base,J.hok,rv,q⟩
 cases fl with
 |ret u=>
  obtain⟨v,σ',H',J,rv,q⟩:=hs
  exact fin J rv q
 |next=>
  obtain⟨σ',H',J,q⟩:=hs
  exact fin (v:=V.non) (u:=Value.none) J rfl q
 |brk=>
  obtain⟨_,_,_,q⟩:=hs
  exact False.elim q
 |cont=>
  obtain⟨_,_,_,q⟩:=hs
  exact False.elim q
section
variable {X:Cx}{x:Str}{p pos:Pos}{e:Expr}{es:List Expr}{t:TA}{id T:String}{r:List V->Hp->VK->Prop}
noncomputable def tCB (r:List V->Hp->VK->Prop)(t:TA):TE:=λσ H Q=>t σ H λvs H1=>r vs H1 Q
theorem XC (hc:Y9 X (.builtin id) r)(hg:Gl X x)(hm:X.mg x=none)(hv:bootBuiltins x=some (.builtin id))(ha:PA X (e::es) t)(hn:x≠ "__name__":=by decide)(hdb:(x==("__debug__":Str))=false:=by decide)
  (he:starEach (e::es) X.env=(false,eval e X.env)::starEach es X.env:=by rfl)(hpl:(backTo pos (starEach es X.env)).any (·.1)=false:=by rfl):PE X (.Call (.Name x p) (e::es) [] pos) (tCB r t):=by
 intro pins s σ H Q I h
 refine wpAny_Call_Name_kw (VT I hg hm hv ?_ hn hdb)
 exact PyProof.Rows.callWith_builtin1 (thn (ha pos pins s σ H _ I h) λus s1 r9=>by obtain⟨vs,H1,I1,r1,q1⟩:=r9;exact hc pins s1 σ H1 vs us Q I1 r1 q1) he hpl
theorem YG (hc:Y9 X (.type T) r)(hg:Gl X x)(hm:X.mg x=none)(hv:bootBuiltins x=some (.type T))(ha:PA X (e::es) t)(hn:x≠ "__name__":=by decide)(hdb:(x==("__debug__":Str))=false:=by decide)
  (he:starEach (e::es) X.env=(false,eval e X.env)::starEach es X.env:=by rfl)(hpl:(backTo pos (starEach es X.env)).any (·.1)=false:=by rfl):PE X (.Call (.Name x p) (e::es) [] pos) (tCB r t):=by
 intro pins s σ H Q I h
 refine wpAny_Call_Name_kw (VT I hg hm hv ?_ hn hdb)
 exact PyProof.Rows.callWith_type1 (thn (ha pos pins s σ H _ I h) λus s1 r9=>by obtain⟨vs,H1,I1,r1,q1⟩:=r9;exact hc pins s1 σ H1 vs us Q I1 r1 q1) he hpl
end
end L2
namespace HT
open PySem PyProof.Rows
section
open PySem.SeqAt
open PySem.AutoSeq1 (wpAny_loadPart')
open PySem.MeetsSeq PySem.MeetsSeq2 PySem.MeetsSeq3
end
section
variable {prog:Program}{w:World}{A:Around}{E:Value->Shared->Prop}{s:Shared}
theorem cat_tup {t b:Addr}{vs ws:List Value}{Q:Value->Shared->Prop}(ht:IsTup s.heap t vs.toArray)(hb:IsTup s.heap b ws.toArray)(hv:vs≠ [])
  (h1:ws=[]->Q (.ref t) s)(h2:ws≠ []->Q (.ref s.heap.objs.size) {s with heap:=s.heap.push {cls:=.type "tuple",data:=.seq (vs++ws).toArray}})
  (hsz:vs.length+ws.length<=sizeLine):wpAny (model prog w) A (binaryOp .Add (.ref t) (.ref b)) Q E s:=by
 obtain⟨⟨cls,dd,data,sl⟩,ho,hc,n,hd⟩:=id ht
 obtain⟨⟨cls2,dd2,data2,sl2⟩,ho2,hc2,n2,hd2⟩:=id hb
 simp only at hc hd hc2 hd2
 subst hc hd hc2 hd2
 have e:vs.toArray++ws.toArray=(vs++ws).toArray:=by simp
 by_cases hw:ws=[]
 ·exact concat_meets ⟨_,ho,rfl⟩ ⟨_,ho2,rfl⟩ noFill_tuple_add seq_tuple_add PySem.F.slot_tuple_add PySem.F.entry_tuple_add (PySem.F.args_tuple_add_2 _ _)
   (tuple_addW1 t b vs.toArray ws.toArray n n2 dd dd2 sl sl2 (by simpa using hv) (by simp[hw])) ⟨ho,ho2,h1 hw⟩
 ·refine concat_meets ⟨_,ho,rfl⟩ ⟨_,ho2,rfl⟩ noFill_tuple_add seq_tuple_add PySem.F.slot_tuple_add PySem.F.entry_tuple_add (PySem.F.args_tuple_add_2 _ _)
   (tuple_addW2 t b vs.toArray ws.toArray n n2 dd dd2 sl sl2 (by simpa using hv) (by simpa using hw) (by rw[List.size_toArray,List.size_toArray];exact hsz)) ⟨ho,ho2,?_⟩
  rw[e]
  exact h2 hw
noncomputable def sIx (n d:Nat):Option Int->Nat
 |none=>d
 |some v=>if v<0 then(v+(n:Int)).toNat else min v.toNat n
theorem sIx_none (n d:Nat):sIx n d none=d:=rfl
theorem sIx_nat (n d k:Nat):sIx n d (some (k:Int))=min k n:=by
 show(if(k:Int)<0 then((k:Int)+(n:Int)).toNat else min (k:Int).toNat n)=min k n
 rw[if_neg (by omega),Int.toNat_natCast]
theorem CU (n d:Nat)(hd:d<=n)(o:Option Int):sIx n d o<=n:=by
 cases o with
 |none=>exact hd
 |some v=>
  show(if v<0 then(v+(n:Int)).toNat else min v.toNat n)<=n
  by_cases hv:v<0
  ·rw[if_pos hv];omega
  ·rw[if_neg hv];exact Nat.min_le_right _ _
theorem Kj (v:Int)(n d:Nat):(if v<0 then max (v+(n:Int)) 0 else min v (n:Int))=((sIx n d (some v):Nat):Int):=by
 show(if v<0 then max (v+(n:Int)) 0 else min v (n:Int))=(((if v<0 then(v+(n:Int)).toNat else min v.toNat n):Nat):Int)
 by_cases hv:v<0
 ·simp only[if_pos hv];omega
 ·simp only[if_neg hv];omega
theorem Us (lo hi:Option Int)(n:Nat):Builtin.Slice.sliceAdjust lo hi 1 (n:Int)=(((sIx n 0 lo:Nat):Int),((sIx n n hi:Nat):Int)):=by
 have h1:¬((1:Int)<0):=by omega
 unfold Builtin.Slice.sliceAdjust
 simp only[h1,if_false]
 refine Prod.ext ?_ ?_
 ·cases lo with
  |none=>rfl
  |some v=>exact Kj v n 0
 ·cases hi with
  |none=>rfl
  |some v=>exact Kj v n n
theorem Ue (i j:Nat):Builtin.Slice.slicePlaces (i:Int) (j:Int) 1=j-i:=by
 unfold Builtin.Slice.slicePlaces
 have h1:(1:Int) > 0:=by omega
 simp only[h1,if_true,Int.ediv_one]
 split<;> omega
theorem QD {v:Value}{o:Option Int}{Q:Option Int->Shared->Prop}(p:IsPart v o)(h:Q o s):wpAny (model prog w) A (Builtin.Slice.slicePartIndex v) Q E s:=by
 cases p with
 |none=>exact slicePart_none h
 |int i t=>exact slicePart_int h
theorem ZV {sl:Addr}{vl vu:Value}{lo hi:Option Int}{n:Nat}{Q:Int×Int×Nat->Shared->Prop}(hs:s.heap.IsSliceOf sl vl vu .none)(pl:IsPart vl lo)(pu:IsPart vu hi)
  (h:Q (((sIx n 0 lo:Nat):Int),1,sIx n n hi-sIx n 0 lo) s):wpAny (model prog w) A (Builtin.Slice.sliceApplied (.ref sl) (pure (n:Int))) Q E s:=by
 obtain⟨os,hos,hcs,hds⟩:=id hs
 unfold Builtin.Slice.sliceApplied Builtin.Slice.sliceFields
 refine wpAny_bind (wpAny_bind (wpAny_field hos hds (x:=vl) rfl (wpAny_bind (wpAny_field hos hds (x:=vu) rfl (wpAny_bind (wpAny_field hos hds (x:=.none) rfl (wpAny_pure ?_)))))))
 refine wpAny_bind (slicePart_none ?_)
 show wpAny _ _ (if((1:Int)==0)=true then _ else _) _ _ s
 rw[if_neg (by decide)]
 refine wpAny_bind (QD pl (wpAny_bind (QD pu (wpAny_bind (wpAny_pure ?_)))))
 show wpAny _ _ (match Builtin.Slice.sliceAdjust lo hi 1 (n:Int) with | (lo,hi)=>pure (lo,(1:Int),Builtin.Slice.slicePlaces lo hi 1)) _ _ s
 rw[Us lo hi n]
 show wpAny _ _ (pure (((sIx n 0 lo:Nat):Int),(1:Int),Builtin.Slice.slicePlaces ((sIx n 0 lo:Nat):Int) ((sIx n n hi:Nat):Int) 1)) _ _ s
 rw[Ue]
 exact wpAny_pure h
theorem GG (xs:Array Value)(i k:Nat):((List.range k).filterMap λ(m:Nat)=>xs[((i:Int)+(m:Int)*1).toNat]?).toArray=((xs.toList.drop i).take k).toArray:=by
 have e:(λ(m:Nat)=>xs[((i:Int)+(m:Int)*1).toNat]?)=λm=>xs[i+m]?:=by
  funext m
  have:((i:Int)+(m:Int)*1).toNat=i+m:=by omega
  rw[this]
 rw[e]
 have:=pick_run xs i k
 rw[List.filterMap_map] at this
 have e2:((λx=>xs[x]?)∘λx=>i+x)=λm=>xs[i+m]?:=rfl
 rw[e2] at this
 rw[this]
theorem getItem_tuple_cut {t sl:Addr}{items:Array Value}{vl vu:Value}{lo hi:Option Int}{Q:Value->Shared->Prop}(ht:IsTup s.heap t items)(hs:s.heap.IsSliceOf sl vl vu .none)(pl:IsPart vl lo)(pu:IsPart vu hi)
  (hw:¬(sIx items.size 0 lo=0/\sIx items.size items.size hi=items.size))
  (h:Q (.ref s.heap.objs.size) {s with heap:=s.heap.push {cls:=.type "tuple",data:=.seq ((items.toList.drop (sIx items.size 0 lo)).take (sIx items.size items.size hi-sIx items.size 0 lo)).toArray}})
  (hsz:items.size<=sizeLine):wpAny (model prog w) A (getItem (.ref t) (.ref sl)) Q E s:=by
 have htake:sizeOk (.seq ((items.toList.drop (sIx items.size 0 lo)).take (sIx items.size items.size hi-sIx items.size 0 lo)).toArray):=by
  show((items.toList.drop (sIx items.size 0 lo)).take (sIx items.size items.size hi-sIx items.size 0 lo)).toArray.size<=sizeLine
  rw[List.size_toArray,List.length_take,List.length_drop,Array.length_toList]
  omega
 have hj:sIx items.size items.size hi<=items.size:=CU _ _ (Nat.le_refl _) hi
 obtain⟨os,hos,hcs,hds⟩:=id hs
 have hTs:s.TypeIs (.ref sl) "slice":=⟨os,hos,hcs⟩
 unfold getItem
 try with_reducible refine wpAny_holding ?_
 first |refine wpAny_bind (wpAny_pure ?_) |skip
 refine wpAny_bind (wpAny_sequenceKey ht.typeIs (by decide) ?_)
 refine wpAny_bind (wpAny_callSpecial?_slot (name:=Str.ofString "__getitem__") ht.typeIs PyProof.Rows.slot_tuple_getitem
  (wpAny_call_entry PyProof.Rows.slot_tuple_getitem ht.typeIs entry_tuple_getitem ?_ (args_tuple_getitem _ _)))
 show wpAny _ _ (Builtin.Tuple.tupleItemsOf (.ref t) >>= _) _ _ s
 refine wpAny_bind (tupleItemsOf_ ht ?_)
 refine wpAny_bind (wpAny_typeOf hTs ?_)
 rw[if_pos (by decide)]
 refine wpAny_bind (ZV hs pl pu ?_)
 have hno:¬((((sIx items.size 0 lo:Nat):Int)==0&&(1:Int)==1&&(sIx items.size items.size hi-sIx items.size 0 lo)==items.size)=true):=by
  intro q
  rw[Bool.and_eq_true,Bool.and_eq_true] at q
  have q1:((sIx items.size 0 lo:Nat):Int)=0:=eq_of_beq q.1.1
  have q2:sIx items.size items.size hi-sIx items.size 0 lo=items.size:=eq_of_beq q.2
  exact hw ⟨by omega,by omega⟩
 show wpAny _ _ (if(((sIx items.size 0 lo:Nat):Int)==0&&(1:Int)==1&&(sIx items.size items.size hi-sIx items.size 0 lo)==items.size)=true then _ else _) _ _ s
 rw[if_neg hno,GG]
 first
  |exact wpAny_bind (m:=Builtin.Tuple.tupleExact _) (wpAny_newObj_type (wpAny_pure ⟨_,rfl,wpAny_pure h⟩) htake)
  |exact wpAny_bind (m:=Builtin.Tuple.tupleExact _) (wpAny_newObj_type (wpAny_bind (wpAny_pure (wpAny_pure ⟨_,rfl,wpAny_pure h⟩))) htake)
  |exact wpAny_bind (wpAny_bind (m:=Builtin.Tuple.tupleExact _) (wpAny_newObj_type (wpAny_pure (wpAny_pure ⟨_,rfl,wpAny_pure h⟩)) htake))
  |exact wpAny_bind (wpAny_bind (m:=Builtin.Tuple.tupleExact _) (wpAny_newObj_type (wpAny_pure ⟨_,rfl,wpAny_pure h⟩) htake))
end
end HT
namespace L2
open PySem PySem.Spec PyProof.Rows
noncomputable abbrev TO:=St->Hp->(Option Int->Hp->Prop)->Prop
noncomputable def PO (X:Cx)(e:Option Expr)(t:TO):Prop:=
 ∀(pins:List (Addr×Obj)) (s:Shared) (σ:St) (H:Hp) (Q:Option Int->Hp->Prop),Inv X pins σ H s->t σ H Q->
  wpAny (model X.prog X.w) X.A (evalPart e X.env) (λu s'=>∃ o H',Inv X pins σ H' s'/\IsPart u o/\Q o H') X.xe s
noncomputable def UI:TO:=λ_ H Q=>Q none H
noncomputable def Cd (t:TE):TO:=λσ H Q=>t σ H λx H1=>∃ i,x= .int i/\Q (some i) H1
section
variable {X:Cx}{e:Expr}{te:TE}{lo hi:Option Expr}{tl th:TO}{pos p2:Pos}
theorem Ve:PO X none UI:=by
 intro pins s σ H Q I h
 rw[evalPart_none]
 exact wpAny_pure ⟨none,H,I, .none,h⟩
theorem Zi (h:PE X e te):PO X (some e) (Cd te):=by
 intro pins s σ H Q I hw
 rw[evalPart_some]
 refine thn (h pins s σ H _ I hw) λu s1 r9=>?_
 obtain⟨x,H1,I1,r1,q1⟩:=r9
 obtain⟨i,rfl,q⟩:=q1
 obtain⟨t,rfl⟩:=r1
 exact⟨some i,H1,I1, .int i t,q⟩
noncomputable def SlR (X:Cx)(r:V->Option Int->Option Int->Hp->VK->Prop):Prop:=
 ∀(pins:List (Addr×Obj)) (s:Shared) (σ:St) (H:Hp) (x:V) (v vl vu:Value) (lo hi:Option Int) (sl:Addr) (Q:VK),Inv X pins σ H s->XV x v->s.heap.IsSliceOf sl vl vu .none->IsPart vl lo->IsPart vu hi->r x lo hi H Q->
  ∃T id,typeLookup (.type T) "__getitem__" =pure (some (.builtin id))/\s.TypeIs v T/\wpAny (model X.prog X.w) X.A (getItem v (.ref sl)) (EP X pins σ Q) X.xe s
theorem SlR.or {r r':V->Option Int->Option Int->Hp->VK->Prop}(h:SlR X r)(h':SlR X r'):SlR X (λx lo hi H Q=>r x lo hi H Q∨r' x lo hi H Q):=by
 intro pins s σ H x v vl vu lo hi sl Q I rx hs pl pu q
 rcases q with q |q
 ·exact h pins s σ H x v vl vu lo hi sl Q I rx hs pl pu q
 ·exact h' pins s σ H x v vl vu lo hi sl Q I rx hs pl pu q
noncomputable def tSl (r:V->Option Int->Option Int->Hp->VK->Prop)(te:TE)(tl th:TO):TE:=λσ H Q=>te σ H λx H1=>tl σ H1 λl H2=>th σ H2 λu H3=>r x l u H3 Q
theorem Zv {r:V->Option Int->Option Int->Hp->VK->Prop}(hr:SlR X r)(he:PE X e te)(hl:PO X lo tl)(hu:PO X hi th):PE X (.Subscript e (.Slice lo hi none p2) pos) (tSl r te tl th):=by
 intro pins s σ H Q I h
 refine Subscript_ (thn (he pins s σ H _ I h) λv s1 r9=>?_)
 obtain⟨x,H1,I1,r1,q1⟩:=r9
 refine wpAny_Slice (thn (hl pins s1 σ H1 _ I1 q1) λvl s2 ⟨l,H2,I2,pl,q2⟩=>thn (hu pins s2 σ H2 _ I2 q2) λvu s3 r9=>?_)
 obtain⟨u,H3,I3,pu,q3⟩:=r9
 rw[evalPart_none]
 refine wpAny_pure ?_
 have I4:Inv X pins σ H3 {s3 with heap:=s3.heap.push {cls:=.type "slice",data:=.fields #[vl,vu, .none]}}:=I3.kept (t':=s3.toks) λb ob q=>Heap.get?_push_of_some _ q
 obtain⟨T,id,hT,ht,hg⟩:=hr pins {s3 with heap:=s3.heap.push {cls:=.type "slice",data:=.fields #[vl,vu, .none]}} σ H3 x v vl vu l u s3.heap.objs.size Q I4 r1 (Heap.IsSliceOf.new ..) pl pu q3
 show wpAny (model X.prog X.w) X.A (subscriptTail e (.Slice lo hi none p2) v (.ref s3.heap.objs.size)) (EP X pins σ Q) X.xe {s3 with heap:=s3.heap.push {cls:=.type "slice",data:=.fields #[vl,vu, .none]}}
 exact tail_any (ops:=[.ref s3.heap.objs.size,v]) ht hT hg (by with_unfolding_all rfl)
noncomputable def Fk (xs:List V)(lo hi:Option Int):List V:=(xs.drop (HT.sIx xs.length 0 lo)).take (HT.sIx xs.length xs.length hi-HT.sIx xs.length 0 lo)
theorem Z9 (xs:List V)(lo hi:Option Int):(Fk xs lo hi).length<=xs.length:=by
 unfold Fk
 rw[List.length_take,List.length_drop]
 omega
noncomputable def Bv (K:PySem.W.Frag):V->Option Int->Option Int->Hp->VK->Prop:=λx lo hi H Q=>∃ a xs,x= .ref a/\SqT K H a xs/\
 ¬(HT.sIx xs.length 0 lo=0/\HT.sIx xs.length xs.length hi=xs.length)/\∀p,H p=none->Q (.ref p) (upd H p (.tup (Fk xs lo hi)))
theorem Cg:SlR X (Bv X.K):=by
 intro pins s σ H x v vl vu lo hi sl Q I rx hs pl pu h
 obtain⟨a,xs,rfl,hx,hw,q⟩:=h
 cases rx
 obtain⟨its,r,ht,hz⟩:=I.tuple hx
 have hlen:its.toArray.size=xs.length:=by rw[List.size_toArray];exact r.length.symm
 refine⟨"tuple",_,PyProof.Rows.slot_tuple_getitem.lookup,ht.typeIs,?_⟩
 refine HT.getItem_tuple_cut ht hs pl pu (by rw[hlen];exact hw) ?_ (by rw[hlen];exact hz)
 rw[hlen]
 refine⟨.ref s.heap.objs.size,_,I.laid (t':=s.toks) (o:=.tup (Fk xs lo hi)) (λb ob q=>Heap.get?_push_of_some _ q) (Nat.le_refl _) ?_,rfl,q _ (I.hok.fresh (Nat.le_refl _))⟩
 exact⟨Nat.le_trans (Z9 xs lo hi) hz,_,(r.drop (HT.sIx xs.length 0 lo)).take (HT.sIx xs.length xs.length hi-HT.sIx xs.length 0 lo),ZM.new _ _⟩
noncomputable def DI (K:PySem.W.Frag):R2:=λx y H Q=>∃ a b xs ys,x= .ref a/\y= .ref b/\SqT K H a xs/\SqT K H b ys/\xs≠ []/\xs.length+ys.length<=sizeLine/\
 (ys=[]->Q (.ref a) H)/\(ys≠ []->∀p,H p=none->Q (.ref p) (upd H p (.tup (xs++ys))))
theorem XJ.nil_iff {xs:List V}{us:List Value}(r:XJ xs us):us=[]↔xs=[]:=by
 cases r with
 |nil=>simp
 |cons _ _=>simp
theorem KB:OpR X (binaryOp .Add) (DI X.K):=by
 intro pins s σ H x y v u Q I rx ry h
 obtain⟨a,b,xs,ys,rfl,rfl,ha,hb,hx,hz,q1,q2⟩:=h
 cases rx
 cases ry
 obtain⟨its,r1,p1,_⟩:=I.tuple ha
 obtain⟨its2,r2,p2,_⟩:=I.tuple hb
 refine HT.cat_tup p1 p2 (λz=>hx (r1.nil_iff.mp z)) (λz=>⟨.ref a,H,I,rfl,q1 (r2.nil_iff.mp z)⟩) (λz=>?_) (by rw[←r1.length, ←r2.length];exact hz)
 refine⟨.ref s.heap.objs.size,_,I.laid (t':=s.toks) (o:=.tup (xs++ys)) (λb ob q=>Heap.get?_push_of_some _ q) (Nat.le_refl _) ?_,rfl,q2 (λw=>z (r2.nil_iff.mpr w)) _ (I.hok.fresh (Nat.le_refl _))⟩
 exact⟨by rw[List.length_append];exact hz,_,r1.append r2,ZM.new _ _⟩
end
noncomputable def ixN (n:Nat)(i:Int):Option Nat:=if 0<=i then(if i<n then some i.toNat else none) else if-(n:Int)<=i then some (i+n).toNat else none
noncomputable def atI {α:Type}(xs:List α)(i:Int):Option α:=(ixN xs.length i).bind λj=>xs[j]?
theorem Di {n:Nat}{i:Int}{j:Nat}(h:ixN n i=some j):seqIndex? i n=some j/\j<n/\ -(n:Int)<=i/\i<n:=by
 unfold ixN at h
 by_cases h0:0<=i
 ·rw[if_pos h0] at h
  by_cases h1:i<n
  ·rw[if_pos h1] at h
   have e:i.toNat=j:=Option.some.inj h
   exact⟨by rw[seqIndex_of h0 h1,e],by omega,by omega,h1⟩
  ·rw[if_neg h1] at h;cases h
 ·rw[if_neg h0] at h
  by_cases h1: -(n:Int)<=i
  ·rw[if_pos h1] at h
   have e:(i+n).toNat=j:=Option.some.inj h
   exact⟨by rw[seqIndex_neg (by omega) h1,e],by omega,h1,by omega⟩
  ·rw[if_neg h1] at h;cases h
theorem UA {α:Type}{xs:List α}{i:Int}{v:α}(h:atI xs i=some v):∃j,seqIndex? i xs.length=some j/\xs[j]?=some v/\j<xs.length/\ -(xs.length:Int)<=i/\i<xs.length:=by
 unfold atI at h
 cases e:ixN xs.length i with
 |none=>rw[e] at h;cases h
 |some j=>
  rw[e] at h
  obtain⟨h1,h2,h3,h4⟩:=Di e
  exact⟨j,h1,h,h2,h3,h4⟩
noncomputable def DJ (b:Expr):Prop:=∀ o i,subscripted b false o i=operate [o,i] (getItem o i)
noncomputable def IxR (X:Cx)(r:R2):Prop:=
 ∀(value slice:Expr) (pins:List (Addr×Obj)) (s:Shared) (σ:St) (H:Hp) (x y:V) (v u:Value) (Q:VK),Inv X pins σ H s->XV x v->XV y u->r x y H Q->
  subscripted slice false v u=operate [v,u] (getItem v u)->wpAny (model X.prog X.w) X.A (subscriptTail value slice v u) (EP X pins σ Q) X.xe s
noncomputable def MtR (X:Cx)(id:String)(r:V->List V->Hp->VK->Prop):Prop:=
 ∀(pins:List (Addr×Obj)) (s:Shared) (σ:St) (H:Hp) (x:V) (xs:List V) (v:Value) (us:List Value) (Q:VK),Inv X pins σ H s->XV x v->XJ xs us->r x xs H Q->
  wpAny (model X.prog X.w) X.A (call (.builtin id) (v::us)) (EP X pins σ Q) X.xe s
section
variable {X:Cx}{a b:Expr}{ta tb:TE}{pos:Pos}
theorem IxR.or {r r':R2}(h:IxR X r)(h':IxR X r'):IxR X (λx y H Q=>r x y H Q∨r' x y H Q):=by
 intro value slice pins s σ H x y v u Q I rx ry q hs
 rcases q with q |q
 ·exact h value slice pins s σ H x y v u Q I rx ry q hs
 ·exact h' value slice pins s σ H x y v u Q I rx ry q hs
theorem MtR.or {id:String}{r r':V->List V->Hp->VK->Prop}(h:MtR X id r)(h':MtR X id r'):MtR X id (λx xs H Q=>r x xs H Q∨r' x xs H Q):=by
 intro pins s σ H x xs v us Q I rx rs q
 rcases q with q |q
 ·exact h pins s σ H x xs v us Q I rx rs q
 ·exact h' pins s σ H x xs v us Q I rx rs q
theorem XG {r:R2}(hr:IxR X r)(ha:PE X a ta)(hb:PE X b tb)(hs:DJ b):PE X (.Subscript a b pos) (tOp r ta tb):=by
 intro pins s σ H Q I h
 exact Subscript_ (Bu ha hb I h λv u s2 x y H2 I2 rx ry q=>hr a b pins s2 σ H2 x y v u Q I2 rx ry q (hs _ _))
noncomputable def Bk (K:PySem.W.Frag):R2:=λx y H Q=>∃ p xs i v,x= .ref p/\y= .int i/\SqL K H p xs/\atI xs i=some v/\Q v H
noncomputable def CJ (K:PySem.W.Frag):R2:=λx y H Q=>∃ p xs i v,x= .ref p/\y= .int i/\SqT K H p xs/\atI xs i=some v/\Q v H
theorem FR:IxR X (Bk X.K):=by
 intro value slice pins s σ H x y v u Q I rx ry h hs
 obtain⟨p,xs,i,z,rfl,rfl,hq,he,q⟩:=h
 cases rx
 obtain⟨t,rfl⟩:=ry
 obtain⟨its,r,pl,hz⟩:=I.list hq
 obtain⟨j,h1,h2,h3,h4,h5⟩:=UA he
 obtain⟨w,ew,rw'⟩:=r.get h2
 have hl:=r.length
 have hn:=VX
 have fin:EP X pins σ Q w s:=⟨z,H,I,rw',q⟩
 by_cases h0:0<=i
 ·have hj:i.toNat=j:=by
   rw[seqIndex_of h0 h5] at h1
   exact Option.some.inj h1
  exact item_listR pl.isList h0 (by omega) (by rw[hj];simpa using ew) fin hs
 ·have hj:(i+(its.toArray.size:Int)).toNat=j:=by
   rw[seqIndex_neg (by omega) h4] at h1
   rw[List.size_toArray, ←hl]
   exact Option.some.inj h1
  exact subscriptTail_builtinR (x:=w) pl.isList.typeIs slot_list_getitem.lookup
   (wpAny_getItem_list_neg (Q:=λr s'=>r=w/\EP X pins σ Q r s') pl.isList (by omega) (by rw[List.size_toArray]<;> omega) (by omega) (by rw[hj];simpa using ew) ⟨rfl,fin⟩) hs
theorem CH:IxR X (CJ X.K):=by
 intro value slice pins s σ H x y v u Q I rx ry h hs
 obtain⟨p,xs,i,z,rfl,rfl,hq,he,q⟩:=h
 cases rx
 obtain⟨t,rfl⟩:=ry
 obtain⟨its,r,pl,hz⟩:=I.tuple hq
 obtain⟨j,h1,h2,h3,h4,h5⟩:=UA he
 obtain⟨w,ew,rw'⟩:=r.get h2
 have hl:=r.length
 have hn:=VX
 have fin:EP X pins σ Q w s:=⟨z,H,I,rw',q⟩
 exact subscriptTail_builtinR (x:=w) pl.typeIs slot_tuple_getitem.lookup
  (getItem_tuple (j:=j) (Q:=λr s'=>r=w/\EP X pins σ Q r s') pl (by omega) (by omega) (by rw[List.size_toArray, ←hl];exact h1) (by simpa using ew) ⟨rfl,fin⟩) hs
theorem Inv.lst {pins:List (Addr×Obj)}{σ:St}{H:Hp}{s:Shared}{p:Addr}{xs:List V}(I:Inv X pins σ H s)(h:H p=some (.lst xs)):
  ∃(its:List Value) (n:Nat),XJ xs its/\s.heap.get? p=some {cls:=.type "list",data:=.seq its.toArray n}/\xs.length<=sizeLine:=by
 obtain⟨z,its,n,r,e⟩:=I.hok p _ h
 exact⟨its,n,r,e,z⟩
theorem JN (lo hi:Option Int)(n:Nat):(sliceBounds lo hi none n).1=((HT.sIx n 0 lo:Nat):Int)/\(sliceBounds lo hi none n).2.1=((HT.sIx n n hi:Nat):Int)/\(sliceBounds lo hi none n).2.2=1:=by
 refine⟨?_,?_,rfl⟩
 ·cases lo with
  |none=>simp[sliceBounds,HT.sIx]
  |some i=>
   simp only[sliceBounds,HT.sIx,Option.getD_none,show(1:Int) > 0 by decide,if_true]
   by_cases h:i<0
   ·simp only[h,if_true]<;> omega
   ·simp only[h,if_false]<;> omega
 ·cases hi with
  |none=>simp[sliceBounds,HT.sIx]
  |some i=>
   simp only[sliceBounds,HT.sIx,Option.getD_none,show(1:Int) > 0 by decide,if_true]
   by_cases h:i<0
   ·simp only[h,if_true]<;> omega
   ·simp only[h,if_false]<;> omega
theorem Q0 (its:List Value)(lo hi:Option Int):slicePick its.toArray lo hi none=((its.drop (HT.sIx its.length 0 lo)).take (HT.sIx its.length its.length hi-HT.sIx its.length 0 lo)).toArray:=by
 obtain⟨h1,h2,h3⟩:=JN lo hi its.toArray.size
 unfold slicePick
 rw[h1,h2,h3]
 simp only[sliceRange_one,pick_run,List.size_toArray]<;> rfl
noncomputable def Bn (K:PySem.W.Frag):V->Option Int->Option Int->Hp->VK->Prop:=λx lo hi H Q=>∃ a xs,x= .ref a/\SqL K H a xs/\∀p,H p=none->Q (.ref p) (upd H p (.lst (Fk xs lo hi)))
theorem De:SlR X (Bn X.K):=by
 intro pins s σ H x v vl vu lo hi sl Q I rx hs pl pu h
 obtain⟨a,xs,rfl,hx,q⟩:=h
 cases rx
 obtain⟨its,r,ht,hz⟩:=I.list hx
 have hlen:=r.length
 refine⟨"list",_,slot_list_getitem.lookup,ht.isList.typeIs,?_⟩
 refine wpAny_getItem_list_slice ht.isList hs pl pu .none (by simp) ?_ (by rw[List.size_toArray]<;> omega)
 rw[Q0, ←hlen]
 refine⟨.ref s.heap.objs.size,_,I.laid (t':=s.toks) (o:=.lst (Fk xs lo hi)) (λb ob q=>Heap.get?_push_of_some _ q) (Nat.le_refl _) ?_,rfl,q _ (I.hok.fresh (Nat.le_refl _))⟩
 exact⟨Nat.le_trans (Z9 xs lo hi) hz,_,0,(r.drop (HT.sIx xs.length 0 lo)).take (HT.sIx xs.length xs.length hi-HT.sIx xs.length 0 lo),Heap.get?_push_size _ rfl⟩
noncomputable def Qx:V->Bool
 | .non=>true
 | .bl _=>true
 | .int _=>true
 | .str _=>true
 |_=>false
noncomputable def eqV:V->V->Bool
 | .non, .non=>true
 | .bl a, .bl b=>a==b
 | .bl a, .int b=>(if a then 1 else 0)==b
 | .int a, .bl b=>a==(if b then 1 else 0)
 | .int a, .int b=>a==b
 | .str a, .str b=>a==b
 |_,_=>false
theorem Cn {A:Around}{s:Shared}{y x:V}{u v:Value}(ry:XV y u)(rx:XV x v)(fy:Qx y=true)(fx:Qx x=true):SeqAt.EqAt A s u v (eqV y x):=by
 cases y with
 |non=>
  cases ry
  cases x with
  |non=>cases rx;exact SeqAt.EqAt.same _
  |bl b=>cases rx;exact SeqAt.EqAt.none_bool b
  |int b=>obtain⟨t,rfl⟩:=rx;exact SeqAt.EqAt.none_int b t
  |str b=>obtain⟨t,rfl⟩:=rx;exact SeqAt.EqAt.none_str b t
  |_=>exact absurd (show false=true from fx) Bool.false_ne_true
 |bl a=>
  cases ry
  cases x with
  |non=>cases rx;exact SeqAt.EqAt.bool_none a
  |bl b=>cases rx;exact SeqAt.EqAt.bool_bool a b
  |int b=>obtain⟨t,rfl⟩:=rx;exact SeqAt.EqAt.bool_int a b t
  |str b=>obtain⟨t,rfl⟩:=rx;exact SeqAt.EqAt.bool_str a b t
  |_=>exact absurd (show false=true from fx) Bool.false_ne_true
 |int a=>
  obtain⟨t',rfl⟩:=ry
  cases x with
  |non=>cases rx;exact SeqAt.EqAt.int_none a t'
  |bl b=>cases rx;exact SeqAt.EqAt.int_bool a t' b
  |int b=>obtain⟨t,rfl⟩:=rx;exact SeqAt.EqAt.int_int a t' b t
  |str b=>obtain⟨t,rfl⟩:=rx;exact SeqAt.EqAt.int_str a t' b t
  |_=>exact absurd (show false=true from fx) Bool.false_ne_true
 |str a=>
  obtain⟨t',rfl⟩:=ry
  cases x with
  |non=>cases rx;exact SeqAt.EqAt.str_none a t'
  |bl b=>cases rx;exact SeqAt.EqAt.str_bool a t' b
  |int b=>obtain⟨t,rfl⟩:=rx;exact SeqAt.EqAt.str_int a t' b t
  |str b=>obtain⟨t,rfl⟩:=rx;exact SeqAt.EqAt.str_str a t' b t
  |_=>exact absurd (show false=true from fx) Bool.false_ne_true
 |_=>exact absurd (show false=true from fy) Bool.false_ne_true
noncomputable def eqU (x:V)(u:Value):Bool:=match u with
 | .none=>eqV .non x
 | .bool b=>eqV (.bl b) x
 | .int i _=>eqV (.int i) x
 | .str z _=>eqV (.str z) x
 |_=>false
theorem Fb {x y:V}{u:Value}(r:XV y u)(f:Qx y=true):eqU x u=eqV y x:=by
 cases y with
 |non=>cases r;rfl
 |bl b=>cases r;rfl
 |int i=>obtain⟨t,rfl⟩:=r;rfl
 |str z=>obtain⟨t,rfl⟩:=r;rfl
 |_=>exact absurd (show false=true from f) Bool.false_ne_true
theorem Z8 {x:V}:∀{xs:List V}{us:List Value},XJ xs us->xs.all Qx=true->us.any (eqU x)=xs.any λy=>eqV y x
 |_,_, .nil,_=>rfl
 |y::xs,u::us, .cons r t,f=>by
  rw[List.all_cons,Bool.and_eq_true] at f
  rw[List.any_cons,List.any_cons,Fb r f.1,Z8 t f.2]
theorem Zu {A:Around}{s:Shared}{x:V}{v:Value}(rx:XV x v)(fx:Qx x=true):∀{xs:List V}{us:List Value},XJ xs us->xs.all Qx=true->∀u∈us,SeqAt.EqAt A s u v (eqU x u)
 |_,_, .nil,_=>λu hu=>by cases hu
 |y::xs,u::us, .cons r t,f=>λu' hu=>by
  rw[List.all_cons,Bool.and_eq_true] at f
  rcases List.mem_cons.mp hu with rfl |hu
  ·rw[Fb r f.1];exact Cn r rx f.1 fx
  ·exact Zu rx fx t f.2 u' hu
noncomputable def inV (x:V)(xs:List V):Bool:=xs.any λy=>eqV y x
noncomputable def rIn (K:PySem.W.Frag)(neg:Bool):R2:=λx y H Q=>∃ p xs,y= .ref p/\(SqL K H p xs∨SqT K H p xs)/\Qx x=true/\xs.all Qx=true/\Q (.bl (if neg then !inV x xs else inV x xs)) H
theorem UQ:OpR X (compareOp .In) (rIn X.K false):=by
 intro pins s σ H x y v u Q I rx ry h
 obtain⟨p,xs,rfl,hq,fx,fs,q⟩:=h
 cases ry
 rcases hq with hq |hq
 ·obtain⟨its,r,pl,hz⟩:=I.list hq
  refine SeqAt.in_listAt (eqU x) pl.isList (λw hw=>Zu rx fx r fs w (by simpa using hw)) ⟨.bl _,H,I,rfl,?_⟩
  rw[show its.toArray.any (eqU x)=its.any (eqU x) by simp,Z8 r fs]
  exact q
 ·obtain⟨its,r,pl,hz⟩:=I.tuple hq
  refine SeqAt.in_tupleAt (eqU x) pl (λw hw=>Zu rx fx r fs w (by simpa using hw)) ⟨.bl _,H,I,rfl,?_⟩
  rw[show its.toArray.any (eqU x)=its.any (eqU x) by simp,Z8 r fs]
  exact q
theorem ZK:OpR X (compareOp .NotIn) (rIn X.K true):=by
 intro pins s σ H x y v u Q I rx ry h
 obtain⟨p,xs,rfl,hq,fx,fs,q⟩:=h
 cases ry
 rcases hq with hq |hq
 ·obtain⟨its,r,pl,hz⟩:=I.list hq
  refine SeqAt.notIn_listAt (eqU x) pl.isList (λw hw=>Zu rx fx r fs w (by simpa using hw)) ⟨.bl _,H,I,rfl,?_⟩
  rw[show its.toArray.any (eqU x)=its.any (eqU x) by simp,Z8 r fs]
  exact q
 ·obtain⟨its,r,pl,hz⟩:=I.tuple hq
  refine SeqAt.notIn_tupleAt (eqU x) pl (λw hw=>Zu rx fx r fs w (by simpa using hw)) ⟨.bl _,H,I,rfl,?_⟩
  rw[show its.toArray.any (eqU x)=its.any (eqU x) by simp,Z8 r fs]
  exact q
theorem JS:Y9 X (.builtin "len") (λxs H Q=>∃ p ys,xs=[.ref p]/\(SqL X.K H p ys∨SqT X.K H p ys)/\Q (.int ys.length) H):=by
 intro pins s σ H xs us Q I r h
 obtain⟨p,ys,rfl,hq,q⟩:=h
 obtain⟨u,rfl,rx⟩:=Uh r
 cases rx
 have hn:=VX
 rcases hq with hq |hq
 ·obtain⟨its,r',pl,hz⟩:=I.list hq
  have hlen:=r'.length
  exact Calls.call_len_list pl.isList (by simp only[List.size_toArray]<;> omega) ⟨.int ys.length,H,I.tok _,⟨s.toks+1,by rw[List.size_toArray,hlen]⟩,q⟩
 ·obtain⟨its,r',pl,hz⟩:=I.tuple hq
  have hlen:=r'.length
  exact len_tuple pl (by simp only[List.size_toArray]<;> omega) ⟨.int ys.length,H,I.tok _,⟨s.toks+1,by rw[List.size_toArray,hlen]⟩,q⟩
theorem Jt:Y9 X (.builtin "len") (λxs H Q=>∃ z,xs=[.str z]/\z.length<=sizeLine/\Q (.int z.length) H):=by
 intro pins s σ H xs us Q I r h
 obtain⟨z,rfl,hz,q⟩:=h
 obtain⟨u,rfl,t,rfl⟩:=Uh r
 have hn:=VX
 exact len_str (by omega) ⟨.int z.length,H,I.tok _,⟨_,rfl⟩,q⟩
theorem Y9.or {f:Value}{r r':List V->Hp->VK->Prop}(h:Y9 X f r)(h':Y9 X f r'):Y9 X f (λxs H Q=>r xs H Q∨r' xs H Q):=by
 intro pins s σ H xs us Q I rs q
 rcases q with q |q
 ·exact h pins s σ H xs us Q I rs q
 ·exact h' pins s σ H xs us Q I rs q
theorem Q1:Y9 X (.type "tuple") (λxs H Q=>∃ p ys,xs=[.ref p]/\((SqL X.K H p ys/\∀l,H l=none->Q (.ref l) (upd H l (.tup ys)))∨(SqT X.K H p ys/\Q (.ref p) H))):=by
 intro pins s σ H xs us Q I r h
 obtain⟨p,ys,rfl,h⟩:=h
 obtain⟨u,rfl,rx⟩:=Uh r
 cases rx
 rcases h with⟨hq,q⟩ | ⟨hq,q⟩
 ·obtain⟨its,r',pl,hz⟩:=I.list hq
  have hlen:=r'.length
  refine call_tuple_list pl.isList (λh' kp=>?_) (by simp only[List.size_toArray]<;> omega)
  have I1:Inv X pins σ H {s with heap:=h'}:=I.kept (t':=s.toks) kp
  have I2:Inv X pins σ (upd H h'.objs.size (.tup ys)) {s with heap:=h'.push {cls:=.type "tuple",data:=.seq its.toArray}}:=
   I1.laid (t':=s.toks) (λb o e=>Heap.get?_push_of_some _ e) (Nat.le_refl _) (show Yh X.prog X.w _ _ _ (.tup ys) from⟨hz,its,r',ZM.new _ _⟩)
  exact⟨.ref h'.objs.size,_,I2,rfl,q _ (I1.hok.fresh (Nat.le_refl _))⟩
 ·obtain⟨its,r',pl,hz⟩:=I.tuple hq
  exact call_tuple_same pl ⟨.ref p,H,I,rfl,q⟩
noncomputable def tyV (K:PySem.W.Frag)(T:String)(x:V)(H:Hp):Prop:=match x with
 | .str _=>T= "str"
 | .int _=>T= "int"
 | .ref p=>(T= "list" /\∃xs,SqL K H p xs)∨(T= "tuple" /\∃o,K.lookup p=some o/\o.cls= .type "tuple" /\o.dict=none)∨
   (T= "dict" /\((∃kvs,H p=some (.dK kvs))∨∃kvs,H p=some (.dT kvs)))∨(T= "set" /\∃S n,H p=some (.set S n))
 |_=>False
theorem Fw {pins:List (Addr×Obj)}{σ:St}{H:Hp}{s:Shared}{T:String}{x:V}{v:Value}(I:Inv X pins σ H s)(r:XV x v)(ty:tyV X.K T x H):
  s.TypeIs v T/\∀a,v= .ref a->∃ob,s.heap.get? a=some ob/\ob.dict=none:=by
 cases x with
 |str z=>
  obtain⟨t,rfl⟩:=r
  cases(show T= "str" from ty)
  exact⟨typeIs_str s z t,λ_ e=>nomatch e⟩
 |int i=>
  obtain⟨t,rfl⟩:=r
  cases(show T= "int" from ty)
  exact⟨typeIs_int s i t,λ_ e=>nomatch e⟩
 |ref p=>
  cases r
  rcases ty with⟨rfl,xs,hq⟩ | ⟨rfl,o,hk,hc,hd⟩ | ⟨rfl,hk⟩ | ⟨rfl,S,n,hk⟩
  ·obtain⟨its,_,pl,_⟩:=I.list hq
   refine⟨pl.isList.typeIs,λa e=>?_⟩
   cases e
   obtain⟨o,n,e,c,hd,_⟩:=pl
   exact⟨o,e,hd⟩
  ·refine⟨⟨o,I.kIn p o hk,hc⟩,λa e=>?_⟩
   cases e
   exact⟨o,I.kIn _ o hk,hd⟩
  ·have z:∃o,s.heap.get? p=some o/\o.ExactDict:=by
    rcases hk with⟨kvs,hk⟩ | ⟨kvs,hk⟩
    ·obtain⟨_,_,_,_,o,_,_,e,ex,_⟩:=I.hok p _ hk
     exact⟨o,e,ex⟩
    ·obtain⟨_,_,_,_,o,_,_,e,ex,_⟩:=I.hok p _ hk
     exact⟨o,e,ex⟩
   obtain⟨o,e,ex⟩:=z
   refine⟨⟨o,e,ex.1⟩,λa e2=>?_⟩
   cases e2
   exact⟨o,e,ex.2.1⟩
  ·obtain⟨o,_,_,_,e,ex,_⟩:=I.hok p _ hk
   refine⟨⟨o,e,ex.1⟩,λa e2=>?_⟩
   cases e2
   exact⟨o,e,ex.2.1⟩
 |_=>exact False.elim ty
noncomputable def B7 (K:PySem.W.Frag)(T:String)(r:V->List V->Hp->VK->Prop)(to:TE):TE:=λσ H Q=>to σ H λx H1=>tyV K T x H1/\r x [] H1 Q
noncomputable def tBM (K:PySem.W.Frag)(T:String)(r:V->List V->Hp->VK->Prop)(to:TE)(t:TA):TE:=λσ H Q=>to σ H λx H1=>tyV K T x H1/\t σ H1 λxs H2=>r x xs H2 Q
variable {o e:Expr}{es:List Expr}{to:TE}{t:TA}{name:Str}{apos cpos:Pos}{T id:String}{r:V->List V->Hp->VK->Prop}
theorem Bc (pa:PlainAttrs T)(slot:Slot T name id)(hty:typeOf (.builtin id)=pure (.type "method_descriptor"))(hm:MtR X id r)(ho:PE X o to)
  (hbase:attributeBase o name X.env (eval o X.env)=eval o X.env:=by rfl)(hline:(apos.endLine==cpos.line)=true:=by rfl):PE X (.Call (.Attribute o name apos) [] [] cpos) (B7 X.K T r to):=by
 intro pins s σ H Q I h
 refine wpAny_Call_method0_late hbase hline (thn (ho pins s σ H _ I h) λv s1 r9=>?_)
 obtain⟨x,H1,I1,r1,ty,q1⟩:=r9
 obtain⟨h1,h2⟩:=Fw I1 r1 ty
 exact⟨T,id,pa,slot,hty,h1,h2,Calls.callWith_builtin rfl (PySem.evalArgs_none (hm pins s1 σ H1 x [] v [] Q I1 r1 .nil q1))⟩
theorem ZS (pa:PlainAttrs T)(slot:Slot T name id)(hty:typeOf (.builtin id)=pure (.type "method_descriptor"))(hm:MtR X id r)(ho:PE X o to)(ha:PA X (e::es) t)
  (hbase:attributeBase o name X.env (eval o X.env)=eval o X.env:=by rfl)
  (hfew:((backTo cpos (starEach (e::es) X.env)).all (λx=>!x.1)&&(backToKw cpos (keywordEach [] X.env)).all (λx=>x.1.isSome)
   &&decide ((e::es).length+([]:List Keyword).length+(if([]:List Keyword).isEmpty then 0 else 1)<30))=true:=by rfl)
  (hline:(apos.endLine==cpos.line)=true:=by rfl)(hs:starEach (e::es) X.env=(false,eval e X.env)::starEach es X.env:=by rfl)(hplain:(backTo cpos (starEach es X.env)).any (·.1)=false:=by rfl):
  PE X (.Call (.Attribute o name apos) (e::es) [] cpos) (tBM X.K T r to t):=by
 intro pins s σ H Q I h
 refine wpAny_Call_method_late hbase hfew hline rfl (thn (ho pins s σ H _ I h) λv s1 r9=>?_)
 obtain⟨x,H1,I1,r1,ty,q1⟩:=r9
 obtain⟨h1,h2⟩:=Fw I1 r1 ty
 refine⟨T,id,pa,slot,hty,h1,h2,?_⟩
 have hA:=ha cpos pins s1 σ H1 _ I1 q1
 rw[hs] at hA⊢
 refine Calls.callWith_builtin (by show(false || (backTo cpos (starEach es X.env)).any (·.1))=false;rw[hplain]<;> rfl) (Calls.evalArgs_plain ?_)
 exact thn hA λus s2 r9=>by obtain⟨vs,H2,I2,r2,q2⟩:=r9;exact hm pins s2 σ H2 x vs v us Q I2 r1 r2 q2
/- xs.append(e), list.index on a module's tuple .. are MtR facts of 06m -/
end
noncomputable def MtM (X:Cx)(id:String)(r:V->List V->Hp->VK->Prop):Prop:=
 ∀(pins:List (Addr×Obj)) (s:Shared) (σ:St) (H:Hp) (x:V) (xs:List V) (v:Value) (us:List Value) (Q:VK),Inv X pins σ H s->XV x v->XJ xs us->r x xs H Q->
  wpAny (model X.prog X.w) X.A (call (.builtin id) (v::us)) (EP X pins σ Q) X.xe s
theorem XJ.one:∀{x:V}{us:List Value},XJ [x] us->∃u,us=[u]/\XV x u:=fun {x us} h=>by
 cases h with
 |cons r t=>
  cases t
  exact⟨_,rfl,r⟩
theorem XJ.two:∀{x y:V}{us:List Value},XJ [x,y] us->∃u v,us=[u,v]/\XV x u/\XV y v:=fun {x y us} h=>by
 cases h with
 |cons r t=>
  cases t with
  |cons q t=>
   cases t
   exact⟨_,_,rfl,r,q⟩
theorem XJ.zero:∀{us:List Value},XJ [] us->us=[]
 |_, .nil=>rfl
theorem XJ.dropLast {xs:List V}{us:List Value}(h:XJ xs us):XJ xs.dropLast us.dropLast:=by
 induction h with
 |nil=>exact .nil
 |cons r t ih=>
  cases t with
  |nil=>exact .nil
  |cons q t'=>exact .cons r ih
theorem XJ.reverse {xs:List V}{us:List Value}(h:XJ xs us):XJ xs.reverse us.reverse:=by
 induction h with
 |nil=>exact .nil
 |cons r t ih=>rw[List.reverse_cons,List.reverse_cons];exact XJ.append ih (.cons r .nil)
theorem XJ.rep {xs:List V}{us:List Value}(h:XJ xs us):∀k:Nat,XJ (List.replicate k xs).flatten (List.replicate k us).flatten
 |0=>.nil
 |k+1=>by
  rw[List.replicate_succ,List.replicate_succ,List.flatten_cons,List.flatten_cons]
  exact XJ.append h (XJ.rep h k)
theorem JG (its:List Value):∀(k:Nat) (acc:List Value),
  List.foldl (λx1 x2=>x1++x2) acc.toArray (List.replicate k its.toArray)=(acc++(List.replicate k its).flatten).toArray
 |0,acc=>by simp
 |k+1,acc=>by
  have e:acc.toArray++its.toArray=(acc++its).toArray:=by simp
  have e2:(acc++its)++(List.replicate k its).flatten=acc++(List.replicate (k+1) its).flatten:=by
   rw[List.replicate_succ,List.flatten_cons,List.append_assoc]
  rw[←e2, ←JG its k (acc++its), ←e,List.replicate_succ,List.foldl_cons]
section
variable {X:Cx}{pins:List (Addr×Obj)}{σ:St}{H:Hp}{s:Shared}{l b:Addr}{xs ys zs:List V}
theorem Inv.lset {its its':List Value}{n:Nat}{f:Array Value->Array Value}{t':Nat}(I:Inv X pins σ H s)(hH:H l=some (.lst xs))
  (e:s.heap.get? l=some {cls:=.type "list",data:=.seq its.toArray n})(hf:f its.toArray=its'.toArray)(hv:XJ ys its')(hz:ys.length<=sizeLine):
  Inv X pins σ (upd H l (.lst ys)) {s with heap:=s.heap.update l (Obj.mapSeq f),toks:=t'}:=by
 have q:=PySem.IsL.update e f
 rw[hf] at q
 refine I.write (x:=l) (e:=l) (by rw[hH];exact trivial) (.inl rfl) (λb' u hb hu=>(Heap.get?_update_other s.heap (Obj.mapSeq f) (Ne.symm hb)).trans hu) ⟨_,q⟩ ?_
 exact⟨hz,its',_,hv,q⟩
theorem Inv.lnew {its:List Value}{t':Nat}(I:Inv X pins σ H s)(hv:XJ ys its)(hz:ys.length<=sizeLine):
  Inv X pins σ (upd H s.heap.objs.size (.lst ys)) {s with heap:=s.heap.push {cls:=.type "list",data:=.seq its.toArray},toks:=t'}:=
 I.laid (λ_ _ q=>Heap.get?_push_of_some _ q) (Nat.le_refl _) ⟨hz,its,0,hv,Heap.get?_push_size _ rfl⟩
theorem Inv.fresh (I:Inv X pins σ H s):H s.heap.objs.size=none:=I.hok.fresh (Nat.le_refl _)
theorem Inv.lstM (I:Inv X pins σ H s)(hH:H l=some (.lst xs)):xs.length<=sizeLine/\∃(its:List Value) (n:Nat),XJ xs its/\xs.length=its.length/\s.heap.get? l=some {cls:=.type "list",data:=.seq its.toArray n}:=by
 obtain⟨z,its,n,r,e⟩:=I.hok l _ hH
 exact⟨z,its,n,r,r.length,e⟩
theorem V6 {n:Nat}(h:n<=sizeLine):Builtin.List.listTooLong n=false:=by
 unfold Builtin.List.listTooLong
 exact decide_eq_false (by omega)
end
section
variable {X:Cx}
noncomputable def U7:V->List V->Hp->VK->Prop:=λx vs H Q=>∃ l xs y,x= .ref l/\vs=[y]/\H l=some (.lst xs)/\xs.length<sizeLine/\Q .non (upd H l (.lst (xs++[y])))
theorem X0:MtM X "list.append" U7:=by
 intro pins s σ H x vs v us Q I rx rv h
 obtain⟨l,xs,y,rfl,rfl,hH,hz,q⟩:=h
 cases rx
 obtain⟨u,rfl,ru⟩:=rv.one
 obtain⟨z,its,n,r,hl,e⟩:=I.lstM hH
 refine call_meets F.slot_list_append ⟨_,e,rfl⟩ F.entry_list_append (F.args_list_append_2 _ _) (PySem.list_append l its.toArray n u (by rw[List.size_toArray];omega)) ⟨e,?_⟩
 refine⟨.non,_,I.lset (its':=its++[u]) hH e (by simp) (r.append (.cons ru .nil)) ?_,rfl,q⟩
 rw[List.length_append,List.length_singleton]
 omega
noncomputable def KQ:V->List V->Hp->VK->Prop:=λx vs H Q=>∃ l b xs zs,x= .ref l/\vs=[.ref b]/\H l=some (.lst xs)/\H b=some (.lst zs)/\xs.length+zs.length<=sizeLine/\Q .non (upd H l (.lst (xs++zs)))
theorem JA:MtM X "list.extend" KQ:=by
 intro pins s σ H x vs v us Q I rx rv h
 obtain⟨l,b,xs,zs,rfl,rfl,hH,hB,hz,q⟩:=h
 cases rx
 obtain⟨u,rfl,ru⟩:=rv.one
 cases ru
 obtain⟨z,its,n,r,hl,e⟩:=I.lstM hH
 obtain⟨z2,its2,n2,r2,hl2,e2⟩:=I.lstM hB
 have hsz:its.toArray.size+its2.toArray.size<=sizeLine:=by rw[List.size_toArray,List.size_toArray];omega
 have hlong:¬(!its.toArray.isEmpty&&Builtin.List.listTooLong (its.toArray.size+its2.toArray.size))=true:=by
  rw[V6 hsz,Bool.and_false]
  exact Bool.false_ne_true
 refine call_meets F.slot_list_extend ⟨_,e,rfl⟩ F.entry_list_extend (F.args_list_extend_2 _ _)
  (AutoSeq1.list_extend_list_list_0 l its.toArray n b its2.toArray n2 hlong (by rw[List.size_toArray];omega) (by omega)) ⟨e,e2,?_⟩
 refine⟨.non,_,I.lset (its':=its++its2) hH e (by simp) (r.append r2) ?_,rfl,q⟩
 rw[List.length_append]
 omega
noncomputable def B4:R2:=λx y H Q=>∃ l b xs zs,x= .ref l/\y= .ref b/\H l=some (.lst xs)/\H b=some (.lst zs)/\xs.length+zs.length<=sizeLine/\∀p,H p=none->Q (.ref p) (upd H p (.lst (xs++zs)))
theorem J1:OpR X (binaryOp .Add) B4:=by
 intro pins s σ H x y v u Q I rx ry h
 obtain⟨l,b,xs,zs,rfl,rfl,hH,hB,hz,q⟩:=h
 cases rx
 cases ry
 obtain⟨z,its,n,r,hl,e⟩:=I.lstM hH
 obtain⟨z2,its2,n2,r2,hl2,e2⟩:=I.lstM hB
 refine PySem.P.add_list e e2 ?_ (by rw[List.size_toArray,List.size_toArray];omega)
 have ea:its.toArray++its2.toArray=(its++its2).toArray:=by simp
 rw[ea]
 exact⟨.ref _,_,I.lnew (t':=s.toks) (r.append r2) (by rw[List.length_append];omega),rfl,q _ I.fresh⟩
noncomputable def BZ:R2:=λx y H Q=>∃ l k xs,x= .ref l/\y= .int k/\H l=some (.lst xs)/\ -(2^63)<=k/\k<2^63/\xs.length*k.toNat<=sizeLine/\
 ∀p,H p=none->Q (.ref p) (upd H p (.lst (List.replicate k.toNat xs).flatten))
theorem DK {α:Type}(xs:List α)(k:Nat):(List.replicate k xs).flatten.length=k*xs.length:=by
 induction k with
 |zero=>simp
 |succ k ih=>rw[List.replicate_succ,List.flatten_cons,List.length_append,ih,Nat.succ_mul,Nat.add_comm]
theorem Ff:OpR X (binaryOp .Mult) BZ:=by
 intro pins s σ H x y v u Q I rx ry h
 obtain⟨l,k,xs,rfl,rfl,hH,h1,h2,hz,q⟩:=h
 cases rx
 obtain⟨t,rfl⟩:=ry
 obtain⟨z,its,n,r,hl,e⟩:=I.lstM hH
 have hlen:its.toArray.size*k.toNat<=sizeLine:=by rw[List.size_toArray, ←hl];exact hz
 have hcap:¬its.toArray.size*k.toNat > (2^63-1)/8:=by
  have:(sizeLine:Nat)<=(2^63-1)/8:=by decide
  omega
 have hfit:¬(!Builtin.List.listFitsIndex k)=true:=by
  rw[fitsIndex_both h1 h2]
  exact Bool.false_ne_true
 have hlong:¬Builtin.List.listTooLong (its.toArray.size*k.toNat)=true:=by
  rw[V6 hlen]
  exact Bool.false_ne_true
 have hnew:List.foldl (λx1 x2=>x1++x2) #[] (List.replicate (if its.toArray.isEmpty=true then 0 else k.toNat) its.toArray)=(List.replicate k.toNat its).flatten.toArray:=by
  have f0:∀m:Nat,List.foldl (λx1 x2=>x1++x2) #[] (List.replicate m its.toArray)=(List.replicate m its).flatten.toArray:=λm=>by
   have:=JG its m []
   rw[List.nil_append] at this
   exact this
  rw[f0]
  cases its with
  |nil=>simp
  |cons a r'=>rw[if_neg (by simp)]
 refine wpAny_binaryOp_repeat_ref (T:="list") (U:="int") (by decide) ⟨_,e,rfl⟩ (λs'=>typeIs_int s' k t) noFill_list_mul F.fills_int_mul F.slot_int_rmul repeat_list F.slot_int_index.lookup
  (call_meets F.slot_int_rmul (typeIs_int s k t) F.entry_int_rmul (F.args_int_rmul_2 _ _) (int___rmul___int_list k t l its.toArray n)
   ⟨e,rfl,⟨_,e,rfl⟩,call_meets F.slot_list_mul ⟨_,e,rfl⟩ F.entry_list_mul (F.args_list_mul_2 _ _) (AutoListH.list___mul___list_int_3 l its.toArray n k t hfit hcap hlong) ⟨e,?_⟩⟩)
 rw[hnew]
 exact⟨.ref _,_,I.lnew (t':=s.toks) (r.rep k.toNat) (by rw[DK,Nat.mul_comm];exact hz),rfl,q _ I.fresh⟩
end
section
variable {prog:Program}{w:World}{A:Around}{E:Value->Shared->Prop}{s:Shared}
end
section
variable {X:Cx}
end
end L2
namespace Att
open PySem PySem.W PySem.Calls PyProof.Rows
theorem Qd {P:Params}{h:Heap}:∀(ns:List Int) (vs:List Value),WellAll P h vs (ns.map WData.int)->IntsAre vs ns:=by
 intro ns
 induction ns with
 |nil=>
  intro vs w
  rw[List.map_nil] at w
  cases w
  exact .nil
 |cons n ns ih=>
  intro vs w
  rw[List.map_cons] at w
  cases w with
  |cons a b=>
   cases a
   exact .cons _ _ (ih _ b)
theorem Kk {l:OpenLaw}{n:Nat}(hn:l.most=some n){P:Params}{h:Heap}{args:List WData}{vals:List Value}
  (hpre:l.row.toRowW.claim.pre args=true)(hwl:WellAll P h vals args):
  ∃a vs ns,vals=[Value.ref a]/\args=[WData.list (ns.map WData.int)]/\h.get? a=some {cls:=.type "list",data:=.seq vs.toArray}/\IntsAre vs ns/\ns.length<=n:=by
 have hsh:WShape.hasAll [] args [.list .int]=true:=(pre_splitW hpre).1
 have hc:l.pre.holds [] {args:=args}=true:=(pre_splitW hpre).2
 obtain⟨d,r,rfl,h1,h2⟩:=hasAllW_cons hsh
 obtain rfl:=hasAllW_nil h2
 obtain⟨xs,rfl,h3⟩:=hasW_list h1
 obtain⟨ns,rfl⟩:=items_int h3
 have hlen:ns.length<=n:=by
  unfold OpenLaw.pre at hc
  have h4:(WTm.not (.lt (.lit (.int (n:Int))) (.len (.arg 0)))).holds [] {args:=[.list (ns.map .int)]}=true:=by
   have h4:=(holds_andW hc).1
   rw[hn] at h4
   exact h4
  have h5:=condW_of h4 (w_not (w_lt w_lit (w_len_list (w_arg rfl))))
  rw[List.length_map] at h5
  refine Nat.le_of_not_lt λq=>?_
  have q':(n:Int)<((ns.length:Nat):Int):=by omega
  first
   | (rw[decide_eq_true q'] at h5;exact absurd h5 (by decide))
   | (simp at h5;omega)
 cases hwl with
 |cons w1 w2=>
  cases w2
  cases w1 with
  |list ho hall=>exact⟨_,_,ns,rfl,rfl,ho,Qd ns _ hall,hlen⟩
theorem KI (l:OpenLaw)(args:List WData):l.row.toRowW.claim.post args (.bool true) args=true:=
 postW_of (r:=l.row.toRowW) (X:=(true==true))
  (show WShape.has [] (.bool true) .bool=true by first |rfl |decide |simp[WShape.has,WShape.arms,WShape.armsAll])
  (show(WTm.eq .res (.lit (.bool true))).value [] {args:=args,res:=some (.bool true),after:=args}=some (.bool (true==true)) from w_eq_bool (w_res rfl) w_lit) rfl
theorem attach_call {l:OpenLaw}{n:Nat}{q:Program}{loose:List Str}{XP:(Str->Option Value)->Heap->Prop}{YP:World->Heap->Prop}{d:DefRec}
  (hn:l.most=some n)(hdf:d.params.defaults=[])
  (call:∀(w:World) (s₀ s₁:Shared) (mg mb:Str->Option Value) (fa:Addr) (o:Obj) (pm cd doc:Value) (a:Addr) (vs:List Value) (ns:List Int),
   Ground q loose [] XP w s₀ mg mb s₁.heap->YP w s₁.heap->
   s₁.heap.get? fa=some o->o.data= .func (docDef d.name d.params d.body d.scope pm cd doc)->s₁.heap.CodeRec cd d.name->mg d.name=some (.ref fa)->
   s₁.heap.get? a=some {cls:=.type "list",data:=.seq vs.toArray}->IntsAre vs ns->ns.length<=n->s₁.gens= #[]->
   codeAny (model l.prog w) callerA (.call (.ref fa) ⟨[.ref a],[]⟩) (λr s'=>r= .ok (.ret (.bool true))/\OldK s₁.heap s'.heap/\s'.os=s₁.os/\AllBare s'.gens) s₁):
  WalkO q loose XP YP l.row.toRowW d [] (λf vs=>PySem.call f vs):=by
 intro w s₀ s₁ mg mb G Y fa o pm cd doc dV kV ho hd hcd hD hmg hg args vals as hpre hlay hrd hwl hlo
 obtain rfl:dV= .none:=Dflts.none hD hdf
 obtain rfl:kV= .none:=Dflts.noKw hD
 obtain⟨a,vs,ns,rfl,rfl,hobj,hints,hlen⟩:=Kk hn hpre hwl
 refine enter_call (codeAny_mono (call w s₀ s₁ mg mb fa o pm cd doc a vs ns G Y ho (fd_plain hd) hcd hmg hobj hints hlen hg) λr s' hq=>?_)
 obtain⟨rfl,h2,h3,h4⟩:=hq
 exact⟨.inl ⟨.bool true, .bool true,[],rfl,λ_=>rfl, .bool true,KI l _,λ_=>⟨List.Pairwise.nil,λ_ hm=>(nomatch hm)⟩⟩,h2,h3,h4⟩
section
variable {prog:Program}{w:World}{A:Around}{E:Value->Shared->Prop}{s:Shared}{K:Frag}
noncomputable def BQ (h:Heap)(L d:Addr):List (Addr×Obj):=(List.range h.objs.size).filterMap λa=>if a=L∨a=d then none else(h.get? a).map λo=>(a,o)
end
end Att
namespace L2
open PySem PySem.Spec PyProof.Rows
theorem KD:∀{vs:List Value}{ns:List Int},IntsAre vs ns->XJ (ns.map V.int) vs:=λp=>by
 induction p with
 |nil=>exact .nil
 |cons n t _ ih=>exact .cons ⟨t,rfl⟩ ih
noncomputable def BN (H:Hp):Prop:=∀ b,H b=none∨∃o xs,H b=some (.frz o (.lst xs))
theorem GK {P:Program}{w:World}{K:PySem.W.Frag}{mg mb:Str->Option Value}{CX:CXT}{k:Nat}{fa a:Addr}{fd:FuncData}{x:Str}{sp:Sp}{s₁:Shared}{vs:List Value}{ns:List Int}
  (KX:K.In s₁.heap)(hns:s₁.heap.Ns mainGlobals mg)(hb:s₁.heap.Ns builtinsNs mb)(hbb:∀x:Str,x≠ "__name__" ->mb x=bootBuiltins x)(hlim:s₁.heap.NoLimit)(hg:s₁.gens= #[])
  (ha:s₁.heap.get? a=some {cls:=.type "list",data:=.seq vs.toArray})(hi:IntsAre vs ns)(hl:ns.length<=sizeLine)(hr:Room k callerA)
  (F:∀base:Heap,K.In base->base.Ns mainGlobals mg->FnOk P w K mg base CX k fa fd [x] sp)(hbind:∀(s:Shared) (u:Value),BindsTo s fd ⟨[u],[]⟩ [(x,u)])
  (hsp:∀H:Hp,BN H->SqL K H a (ns.map V.int)->sp [.ref a] H (λv _=>v= .bl true) λ_ _ _=>False)
  (hCX:∀H e s',CX [] H s₁ (λ_ _ _=>False) e s'->False):
  codeAny (model P w) callerA (.call (.ref fa) ⟨[.ref a],[]⟩) (λr s'=>r= .ok (.ret (.bool true))/\OldK s₁.heap s'.heap/\s'.os=s₁.os/\AllBare s'.gens) s₁:=by
 have rv:=KD hi
 have lenV:=hi.length
 -- from an abstract heap in which nothing but the script may be tracked
 have core:∀H:Hp,BN H->SqL K H a (ns.map V.int)->HOk P w H s₁.heap->(∀b,H b≠none->b=a)->(H a≠none->K.lookup a=none)->
   codeAny (model P w) callerA (.call (.ref fa) ⟨[.ref a],[]⟩) (λr s'=>r= .ok (.ret (.bool true))/\OldK s₁.heap s'.heap/\s'.os=s₁.os/\AllBare s'.gens) s₁:=by
  intro H hO hS hok hA hK
  have base_of:∀{b:Addr}{o:Obj},s₁.heap.get? b=some o->H b=none->(K6 s₁.heap H).get? b=some o:=λe n=>V3 e n
  have noA:∀{b:Addr}{o:Obj}{es:Array DictEntry}{ep:Nat},s₁.heap.get? b=some o->o.data= .dict es ep->H b=none:=fun {b o es ep} e d=>by
   cases q:H b with
   |none=>rfl
   |some u=>
    have e':b=a:=hA b (by rw[q];simp)
    subst e'
    rw[ha] at e;cases e
    have d':Data.seq vs.toArray _=Data.dict es ep:=d
    cases d'
  have nsK:∀{b:Addr}{m:Str->Option Value},s₁.heap.Ns b m->(K6 s₁.heap H).Ns b m:=fun {b m} ⟨o,es,ep,e,d,r⟩=>⟨o,es,ep,base_of e (noA e d),d,r⟩
  have hKb:K.In (K6 s₁.heap H):=λb o e=>base_of (KX b o e) (by
   cases q:H b with
   |none=>rfl
   |some u=>
    have e':b=a:=hA b (by rw[q];simp)
    subst e'
    rw[hK (by rw[q];simp)] at e;cases e)
  have hM:Mod K mg (K6 s₁.heap H):=⟨hKb,nsK hns,⟨mb,nsK hb,hbb⟩,let ⟨mc,h1,h2⟩:=hlim;⟨mc,nsK h1,h2⟩⟩
  have e0:Env0 P w K mg (K6 s₁.heap H) callerA [] s₁ H:=⟨rfl,hM,λb o e=>UK e,Nat.le_of_eq (UD _ _),trivial,λb hb=>absurd (show b∈([]:List Addr) from hb) (by simp),hok, .of_eq hg⟩
  refine codeAny_mono ((F _ hKb (nsK hns)).run callerA [] s₁ H ⟨[.ref a],[]⟩ [.ref a] [.ref a] _ _ hr e0 (hbind s₁ (.ref a)) (.cons rfl .nil) (hsp H hO hS)) λr s' h=>?_
  cases r with
  |error e=>exact(hCX H e s' h).elim
  |ok fl=>
   cases fl with
   |next=>exact False.elim h
   |brk=>exact False.elim h
   |cont=>exact False.elim h
   |ret u=>
    obtain⟨v,H',os,bare,un,hok',r',q⟩:=h
    have q':v= .bl true:=q
    subst q'
    obtain rfl:u=Value.bool true:=r'
    refine⟨rfl,OldK.of_keep λb o e=>?_,os,bare⟩
    cases q:H b with
    |none=>exact un.keep b o e q (by intro z;exact absurd (show b∈([]:List Addr) from z) (by simp)) (by simp)
    |some u=>
     rcases hO b with z | ⟨ob,xs,z⟩
     ·rw[q] at z;cases z
     ·have z2:=un.frzs b ob _ z
      obtain⟨e1,_⟩:=hok b _ z
      obtain⟨e2,_⟩:=hok' b _ z2
      rw[e] at e1;cases e1
      exact e2
 cases hk:K.lookup a with
 |some o=>
  -- the script is one of the module's own objects
  have e:=KX a o hk
  rw[ha] at e
  cases e
  refine core (λ_=>none) (λ_=>.inl rfl) (.inr ⟨_,vs.toArray,_,hk,rfl,rfl,rfl,by rw[List.size_toArray,lenV];exact hl,by simpa using rv⟩) (λb u z=>by have z':(none:Option HO)=some u:=z;cases z') (λb z=>absurd rfl z) λz=>absurd rfl z
 |none=>
  refine core (λb=>if b=a then some (.frz {cls:=.type "list",data:=.seq vs.toArray} (.lst (ns.map V.int))) else none) (λb=>?_) (.inl (.inr ⟨{cls:=.type "list",data:=.seq vs.toArray},if_pos rfl⟩)) (λb u z=>?_) (λb z=>?_) λ_=>hk
  ·by_cases hb:b=a
   ·exact .inr ⟨_,_,if_pos hb⟩
   ·exact .inl (if_neg hb)
  ·by_cases hb:b=a
   ·have z':=(if_pos hb).symm.trans z
    cases z'
    subst hb
    exact⟨ha,by rw[List.length_map];exact hl,vs,_,rv,ha⟩
   ·have z':=(if_neg hb).symm.trans z
    cases z'
  ·by_cases hb:b=a
   ·exact hb
   ·exact absurd (if_neg hb) z
theorem DA {l:PySem.W.OpenLaw}{n k:Nat}{q:Program}{loose:List Str}{XP:(Str->Option Value)->Heap->Prop}{YP:World->Heap->Prop}{d:DefRec}{K:Params->PySem.W.Frag}{CX:World->CXT}{sp:World->Sp}{x:Str}
  (hn:l.most=some n)(hn2:n<=sizeLine)(hdf:d.params.defaults=[])(hr:Room k callerA)
  (hY:∀(w:World) (h:Heap),YP w h->(K w.params).In h)
  (F:∀(w:World) (mg:Str->Option Value) (fa:Addr) (h:Heap),(K w.params).In h->h.Ns mainGlobals mg->mg d.name=some (.ref fa)->
   ∃fd:FuncData,(∀(s:Shared) (u:Value),BindsTo s fd ⟨[u],[]⟩ [(x,u)])/\
    ∀base:Heap,(K w.params).In base->base.Ns mainGlobals mg->FnOk l.prog w (K w.params) mg base (CX w) k fa fd [x] (sp w))
  (hsp:∀(w:World) (H:Hp) (a:Addr) (ns:List Int),ns.length<=n->BN H->SqL (K w.params) H a (ns.map V.int)->sp w [.ref a] H (λv _=>v= .bl true) λ_ _ _=>False)
  (hCX:∀(w:World) (H:Hp) (s:Shared) (e:Value) (s':Shared),CX w [] H s (λ_ _ _=>False) e s'->False):
  PySem.W.WalkO q loose XP YP l.row.toRowW d [] (λf vs=>PySem.call f vs):=by
 refine Att.attach_call hn hdf λw s₀ s₁ mg mb fa o pm cd doc a vs ns G Y ho hd hcd hmg hobj hints hlen hg=>?_
 have KX:=hY w _ Y
 obtain⟨fd,hb,hF⟩:=F w mg fa _ KX G.T.g hmg
 exact GK KX G.T.g G.T.b G.T.builtins G.T.nolimit hg hobj hints (Nat.le_trans hlen hn2) hr hF hb (λH hO hS=>hsp w H a ns hlen hO hS) λH e s'=>hCX w H s₁ e s'
noncomputable def Yk (s:Stmt):Arguments:=match s with
 | .FunctionDef _ a _ _ _ _ _ _ _ _=>a
 |_=>{posonlyargs:=[],args:=[],vararg:=none,kwonlyargs:=[],kw_defaults:=[],kwarg:=none,defaults:=[]}
noncomputable def XY (s:Stmt):List Stmt:=match s with
 | .FunctionDef _ _ b _ _ _ _ _ _ _=>b
 |_=>[]
noncomputable def Xk (s:Stmt):Scope:=match s with
 | .FunctionDef _ _ _ _ _ _ sc _ _ _=>sc
 |_=>{kind:=.function,names:=[],isGenerator:=false,isCoroutine:=false}
noncomputable abbrev CX0:CXT:=λ_ _ _ _ _ _=>False
noncomputable abbrev E0:XK:=λ_ _ _=>False
theorem BF {X:Cx}:ZQ CX0 X E0:=λ_ _ _ _ _ _ _ h=>h.elim
structure Fun (K:PySem.W.Frag)(x qual:Str)(st:Stmt)(f:Addr)(fd:FuncData):Prop where
 ex:∃(oc:Value) (od:Option Addr) (kV doc pm:Value) (an:Option Addr) (cdv ct:Value) (osl:Array (Option Value)),
  fd=PySem.W.fnOf x qual (Yk st) (XY st) (Xk st) .none kV doc pm an cdv ct/\K.lookup f=some ⟨oc,od, .func fd,osl⟩/\PySem.W.codeIn K cdv qual=true
 kp:PySem.W.keepIn K (.ref f)=true
section
variable {P:Program}{w:World}{K:PySem.W.Frag}{mg:Str->Option Value}{base:Heap}
theorem Fun.ok {x qual:Str}{st:Stmt}{f:Addr}{fd:FuncData}{N ps:List Str}{k:Nat}{sp:Sp}(F:Fun K x qual st f fd)(S:FnScope N ps (Xk st))(len:∀vs H Q E,sp vs H Q E->vs.length=ps.length)
  (hbody:∀(cdv:Value) (A:Around) (outer:List Env) (s:Shared) (H:Hp) (vs:List V) (Q:VK) (E:XK),Room k (A.deeper (envOfC qual (Xk st) s.heap.objs.size f cdv))->sp vs H Q E->
   ∃t,PSs (V7 CX0 P w K mg base N qual (Xk st) f cdv A outer s H E).nox (XY st) t/\t {nx:=λ_ H'=>Q .non H',rt:=Q} (QB N vs) H):FnOk P w K mg base CX0 (k+1) f fd ps sp:=by
 obtain⟨oc,od,kV,doc,pm,an,cdv,ct,osl,rfl,lk,hcd⟩:=F.ex
 refine DS lk hcd S len λA outer s H vs Q E hr hsp=>?_
 obtain⟨t,h,q⟩:=hbody cdv A outer s H vs Q E hr hsp
 exact⟨t,h.nox,q⟩
theorem Fun.binds {x qual:Str}{st:Stmt}{f:Addr}{fd:FuncData}{ps:List Str}(F:Fun K x qual st f fd)
  (h:∀(kV doc pm:Value) (an:Option Addr) (cdv ct:Value) (us:List Value),us.length=ps.length->bindArgs (PySem.W.fnOf x qual (Yk st) (XY st) (Xk st) .none kV doc pm an cdv ct) ⟨us,[]⟩=pure (ps.zip us)):JF K fd ps []:=by
 obtain⟨oc,od,kV,doc,pm,an,cdv,ct,osl,rfl,lk,hcd⟩:=F.ex
 exact .all (h kV doc pm an cdv ct)
theorem Qj {x qual:Str}{st:Stmt}{f:Addr}{oc:Value}{od an:Option Addr}{osl:Array (Option Value)}{kV doc pm cdv ct:Value}(l:K.lookup f=some ⟨oc,od, .func (PySem.W.fnOf x qual (Yk st) (XY st) (Xk st) .none kV doc pm an cdv ct),osl⟩)
  (c:PySem.W.codeIn K cdv qual=true)(k:PySem.W.keepIn K (.ref f)=true):Fun K x qual st f (PySem.W.fnOf x qual (Yk st) (XY st) (Xk st) .none kV doc pm an cdv ct):=⟨⟨oc,od,kV,doc,pm,an,cdv,ct,osl,rfl,l,c⟩,k⟩
end
theorem Y2 {A:Around}{k:Nat}(hr:Room k A):A.units+1<cLine:=Nat.lt_of_le_of_lt (Nat.add_le_add_left (by decide:1<=64) _) hr.units
section
variable {X:Cx}
theorem pv (i:Nat){x:Str}{pos:Pos}(hN:X.N[i]?=some x:=by rfl)(hv:Vis X.env.scope x:=by first |exact Or.inl rfl |exact Or.inr (Or.inl rfl) |exact Or.inr (Or.inr rfl))(hd:(x==("__debug__":Str))=false:=by decide)
  (hcd:(x==("__classdict__":Str))=false:=by decide):PE X (.Name x pos) (K8 i):=CO hN hv hd hcd
end
noncomputable def Xn (H H':Hp):Prop:=∀ b o,H b=some o->H' b=some o
theorem Xn.refl (H:Hp):Xn H H:=λ_ _ h=>h
theorem Xn.trans {H H1 H2:Hp}(a:Xn H H1)(b:Xn H1 H2):Xn H H2:=λc o h=>b c o (a c o h)
theorem Xn.free {H H':Hp}(e:Xn H H'){l:Addr}(h:H' l=Option.none):H l=Option.none:=by
 cases q:H l with
 |none=>rfl
 |some o=>
  rw[e l o q] at h
  cases h
theorem Xn.seq {K:PySem.W.Frag}{H H':Hp}{a:Addr}{xs:List V}(e:Xn H H')(h:SqL K H a xs):SqL K H' a xs:=by
 rcases h with(h | ⟨o,h⟩) |h
 ·exact .inl (.inl (e _ _ h))
 ·exact .inl (.inr ⟨o,e _ _ h⟩)
 ·exact .inr h
section
variable {κ:Type}[DecidableEq κ]
noncomputable def VM (kvs:List (κ×V))(k:κ):Option V:=(kvs.find? λkv=>decide (kv.1=k)).map (·.2)
noncomputable def Gg (kvs:List (κ×V))(k:κ)(v:V):List (κ×V):=
 if(kvs.any λkv=>decide (kv.1=k))=true then kvs.map (λkv=>if kv.1=k then(kv.1,v) else kv) else kvs++[(k,v)]
noncomputable def CQ (kvs:List (κ×V))(k:κ):List (κ×V):=kvs.filter λkv=>decide (kv.1≠k)
theorem Q4 {p:κ×V}{r:List (κ×V)}{k:κ}(e:p.1=k):VM (p::r) k=some p.2:=by simp[VM,List.find?_cons,e]
theorem Jb {p:κ×V}{r:List (κ×V)}{k:κ}(e:¬p.1=k):VM (p::r) k=VM r k:=by simp[VM,List.find?_cons,e]
theorem VG (k:κ):∀kvs:List (κ×V),(kvs.any λkv=>decide (kv.1=k))=(VM kvs k).isSome
 | []=>rfl
 |p::r=>by
  rw[List.any_cons]
  by_cases e:p.1=k
  ·simp only[Q4 e,decide_eq_true e,Bool.true_or,Option.isSome_some]
  ·rw[Jb e,decide_eq_false e,Bool.false_or];exact VG k r
theorem Uy.isSome_eq {o:Option V}{u:Option Value}(r:Uy o u):o.isSome=u.isSome:=by
 cases o with
 |none=>cases u with
  |none=>rfl
  |some _=>exact(show False from r).elim
 |some _=>cases u with
  |none=>exact(show False from r).elim
  |some _=>rfl
theorem Uy.getD {o:Option V}{u:Option Value}{d:V}{d':Value}(r:Uy o u)(rd:XV d d'):XV (o.getD d) (u.getD d'):=by
 cases o with
 |none=>cases u with
  |none=>exact rd
  |some _=>exact(show False from r).elim
 |some _=>cases u with
  |none=>exact(show False from r).elim
  |some _=>exact r
theorem KV.val {kvs:List (κ×V)}{vs:List (κ×Value)}(r:KV kvs vs)(k:κ):Uy (VM kvs k) (valueAt vs k):=by
 unfold KV at r
 induction r with
 |nil=>exact True.intro
 | @cons p q ps qs h t ih=>
  obtain⟨h1,h2⟩:=h
  by_cases e:p.1=k
  ·have e':q.1=k:=h1.symm.trans e
   have b:valueAt (q::qs) k=some q.2:=by simp[valueAt,List.find?_cons,e']
   rw[Q4 e,b];exact h2
  ·have e':¬q.1=k:=λz=>e (h1.trans z)
   have b:valueAt (q::qs) k=valueAt qs k:=by simp[valueAt,List.find?_cons,e']
   rw[Jb e,b];exact ih
theorem KV.any {kvs:List (κ×V)}{vs:List (κ×Value)}(r:KV kvs vs)(k:κ):(kvs.any λkv=>decide (kv.1=k))=vs.any λkv=>decide (kv.1=k):=by
 unfold KV at r
 induction r with
 |nil=>rfl
 |cons h t ih=>rw[List.any_cons,List.any_cons,ih,h.1]
theorem KV.repl {kvs:List (κ×V)}{vs:List (κ×Value)}(r:KV kvs vs)(k:κ){y:V}{u:Value}(ry:XV y u):
  KV (kvs.map λkv=>if kv.1=k then(kv.1,y) else kv) (vs.map λkv=>if kv.1=k then(kv.1,u) else kv):=by
 unfold KV at r⊢
 induction r with
 |nil=>exact .nil
 | @cons p q ps qs h t ih=>
  rw[List.map_cons,List.map_cons]
  refine .cons ?_ ih
  obtain⟨h1,h2⟩:=h
  by_cases e:p.1=k
  ·rw[if_pos e,if_pos (h1.symm.trans e)];exact⟨h1,ry⟩
  ·rw[if_neg e,if_neg (λz=>e (h1.trans z))];exact⟨h1,h2⟩
theorem KV.put {kvs:List (κ×V)}{vs:List (κ×Value)}(r:KV kvs vs)(k:κ){y:V}{u:Value}(ry:XV y u):KV (Gg kvs k y) (stored vs k u):=by
 unfold Gg stored
 rw[r.any k]
 by_cases e:(vs.any λkv=>decide (kv.1=k))=true
 ·rw[if_pos e,if_pos e];exact r.repl k ry
 ·rw[if_neg e,if_neg e];exact Paired.snoc r ⟨rfl,ry⟩
theorem KV.drop {kvs:List (κ×V)}{vs:List (κ×Value)}(r:KV kvs vs)(k:κ):KV (CQ kvs k) (without vs k):=by
 unfold KV at r⊢
 unfold CQ without
 induction r with
 |nil=>exact .nil
 | @cons p q ps qs h t ih=>
  obtain⟨h1,h2⟩:=h
  rw[List.filter_cons,List.filter_cons]
  by_cases e:p.1=k
  ·have a:¬decide (p.1≠k)=true:=by simp[e]
   have b:¬decide (q.1≠k)=true:=by simp[h1.symm.trans e]
   rw[if_neg a,if_neg b];exact ih
  ·have e':¬q.1=k:=λz=>e (h1.trans z)
   have a:decide (p.1≠k)=true:=by simp[e]
   have b:decide (q.1≠k)=true:=by simp[e']
   rw[if_pos a,if_pos b];exact .cons ⟨h1,h2⟩ ih
theorem KV.keys {kvs:List (κ×V)}{vs:List (κ×Value)}(r:KV kvs vs):kvs.map (·.1)=vs.map (·.1):=by
 unfold KV at r
 induction r with
 |nil=>rfl
 |cons h t ih=>rw[List.map_cons,List.map_cons,ih,h.1]
theorem KV.length {kvs:List (κ×V)}{vs:List (κ×Value)}(r:KV kvs vs):kvs.length=vs.length:=Paired.length r
end
theorem FI {P:Program}{w:World}{k:Key}{u:Value}(r:XV (kV k) u):(Yi P w).is k u=true:=by
 cases k with
 |inl i=>obtain⟨t,e⟩:=(show ∃t,u=Value.int i t from r);subst e;exact Vk P w i t
 |inr x=>obtain⟨t,e⟩:=(show ∃t,u=Value.str x t from r);subst e;exact VA P w x t
theorem JW {P:Program}{w:World}:∀{ks:List Key}{us:List Value},XJ (ks.map kV) us->ItemsAre (Yi P w) ks us
 | [],_,r=>by rw[List.map_nil] at r;cases r;exact .nil
 |k::ks,_,r=>by
  rw[List.map_cons] at r
  cases r with
  |cons h t=>exact .cons (FI h) (JW t)
noncomputable abbrev KT (H:Hp):List (List Key×V)->List (List Key×Addr×Value)->Prop:=Paired λp q=>p.1=q.1/\H q.2.1=some (.tup (p.1.map kV))/\XV p.2 q.2.2
theorem KT.val {H:Hp}{kvs:List (List Key×V)}{xs:List (List Key×Addr×Value)}(r:KT H kvs xs)(k:List Key):Uy (VM kvs k) ((atKey xs k).map (·.2)):=by
 induction r with
 |nil=>exact True.intro
 | @cons p q ps qs h t ih=>
  obtain⟨h1,_,h2⟩:=h
  by_cases e:p.1=k
  ·have e':q.1=k:=h1.symm.trans e
   have b:atKey (q::qs) k=some q.2:=by simp[atKey,List.find?_cons,e']
   rw[Q4 e,b];exact h2
  ·have e':¬q.1=k:=λz=>e (h1.trans z)
   have b:atKey (q::qs) k=atKey qs k:=by simp[atKey,List.find?_cons,e']
   rw[Jb e,b];exact ih
theorem KT.repl {H:Hp}{kvs:List (List Key×V)}{xs:List (List Key×Addr×Value)}(r:KT H kvs xs)(k:List Key){y:V}{u:Value}(ry:XV y u):
  KT H (kvs.map λkv=>if kv.1=k then(kv.1,y) else kv) (xs.map (putAt k u)):=by
 induction r with
 |nil=>exact .nil
 | @cons p q ps qs h t ih=>
  rw[List.map_cons,List.map_cons]
  refine .cons ?_ ih
  obtain⟨h1,h2,h3⟩:=h
  unfold putAt
  by_cases e:p.1=k
  ·rw[if_pos e,if_pos (h1.symm.trans e)];exact⟨h1,h2,ry⟩
  ·rw[if_neg e,if_neg (λz=>e (h1.trans z))];exact⟨h1,h2,h3⟩
theorem KT.put {H:Hp}{kvs:List (List Key×V)}{xs:List (List Key×Addr×Value)}(r:KT H kvs xs)(k:List Key){b:Addr}{y:V}{u:Value}(hb:H b=some (.tup (k.map kV)))(ry:XV y u):
  KT H (Gg kvs k y) (storedH xs k b u):=by
 have e:(kvs.any λkv=>decide (kv.1=k))=(atKey xs k).isSome:=by
  rw[VG,(r.val k).isSome_eq,Option.isSome_map]
 unfold Gg storedH
 rw[e]
 by_cases q:(atKey xs k).isSome=true
 ·rw[if_pos q,if_pos q];exact r.repl k ry
 ·rw[if_neg q,if_neg q];exact Paired.snoc r ⟨rfl,hb,ry⟩
theorem KT.keeps {H H':Hp}{kvs:List (List Key×V)}{xs:List (List Key×Addr×Value)}(r:KT H kvs xs)(ht:∀b ys,H b=some (.tup ys)->H' b=some (.tup ys)):KT H' kvs xs:=
 Paired.mapP r λ_ _ z=>⟨z.1,ht _ _ z.2.1,z.2.2⟩
section
variable {P:Program}{w:World}{H:Hp}{h:Heap}{a:Addr}
theorem DT {ks:List Key}(ok:HOk P w H h)(e:H a=some (.tup (ks.map kV))):(tupleKind (Yi P w)).is h ks a:=by
 obtain⟨_,its,r,o,h1,h2,n,h3⟩:=(show Yh P w H h a (.tup (ks.map kV)) from ok a _ e)
 exact⟨o,its.toArray,n,h1,h2.1,h3,by simpa using JW r⟩
end
noncomputable def Bi (H:Hp)(a:Addr)(y:V)(r:Option V):Prop:=
 (∃kvs k,Rd H a (.dK kvs)/\y=kV k/\r=VM kvs k)∨∃kvs k b,Rd H a (.dT kvs)/\y= .ref b/\H b=some (.tup (k.map kV))/\r=VM kvs k
noncomputable def Bj (H:Hp)(a:Addr)(y v:V)(H':Hp):Prop:=
 (∃kvs k,H a=some (.dK kvs)/\y=kV k/\kvs.length<sizeLine/\H'=upd H a (.dK (Gg kvs k v)))∨
 ∃kvs k b,H a=some (.dT kvs)/\y= .ref b/\H b=some (.tup (k.map kV))/\kvs.length<sizeLine/\H'=upd H a (.dT (Gg kvs k v))
theorem Bi.k {H:Hp}{a:Addr}{kvs:List (Key×V)}{k:Key}(e:H a=some (.dK kvs)):Bi H a (kV k) (VM kvs k):=.inl ⟨kvs,k, .inl e,rfl,rfl⟩
theorem Bi.t {H:Hp}{a b:Addr}{kvs:List (List Key×V)}{k:List Key}(e:H a=some (.dT kvs))(eb:H b=some (.tup (k.map kV))):Bi H a (.ref b) (VM kvs k):=.inr ⟨kvs,k,b, .inl e,rfl,eb,rfl⟩
theorem Bj.k {H:Hp}{a:Addr}{kvs:List (Key×V)}{k:Key}{v:V}(e:H a=some (.dK kvs))(hl:kvs.length<sizeLine):Bj H a (kV k) v (upd H a (.dK (Gg kvs k v))):=.inl ⟨kvs,k,e,rfl,hl,rfl⟩
theorem Bj.t {H:Hp}{a b:Addr}{kvs:List (List Key×V)}{k:List Key}{v:V}(e:H a=some (.dT kvs))(eb:H b=some (.tup (k.map kV)))(hl:kvs.length<sizeLine):
  Bj H a (.ref b) v (upd H a (.dT (Gg kvs k v))):=.inr ⟨kvs,k,b,e,rfl,eb,hl,rfl⟩
section
variable {X:Cx}{pins:List (Addr×Obj)}{σ:St}{H:Hp}{s:Shared}{a:Addr}{y v:V}{u r:Value}{o:Option V}{A:Around}{E:Value->Shared->Prop}
theorem Inv.big (I:Inv X pins σ H s):sysModules<s.heap.objs.size:=by
 have h:mainGlobals<s.heap.objs.size:=(I.mod.glob.keeps I.bk).lt
 exact Nat.lt_trans (by decide) h
end
section
variable {X:Cx}{pins:List (Addr×Obj)}{σ:St}{H:Hp}{s:Shared}{a:Addr}{kvs:List (Key×V)}{k:Key}{u:Value}{A:Around}{E:Value->Shared->Prop}
end
noncomputable def B3 (i:Expr):Prop:=∀ ov iv,subscripted i false ov iv=operate [ov,iv] (getItem ov iv)
theorem Dm {prog:Program}{w:World}{A:Around}{E:Value->Shared->Prop}{s:Shared}{env:Env}{value slice:Expr}{pos:Pos}{T id:String}{Q:Value->Shared->Prop}
  (hl:typeLookup (.type T) "__getitem__" =pure (some (.builtin id)))(hs:B3 slice)
  (h:wpAny (model prog w) A (eval value env) (λo s₁=>wpAny (model prog w) A (eval slice env) (λi s₂=>s₂.TypeIs o T/\wpAny (model prog w) A (getItem o i) Q E s₂) E s₁) E s):
  wpAny (model prog w) A (eval (.Subscript value slice pos) env) Q E s:=by
 refine Subscript_ (wpAny_mono h (λo s₁ h₁=>wpAny_mono h₁ (λi s₂ h₂=>?_) λ_ _ x=>x) λ_ _ x=>x)
 obtain⟨hT,h₂⟩:=h₂
 unfold subscriptTail
 refine wpAny_bind ?_
 rw[getitemInPython_of_ne hT.not_modules]
 refine wpAny_bind (wpAny_specialOf hT hl ?_)
 have fin:wpAny (model prog w) A (subscripted slice false o i) (λr s₃=>wpAny (model prog w) A (letTemporaryGo value o r >>= λ_=>pure r) Q E s₃) E s₂:=by
  rw[hs o i]
  exact wpAny_operating (wpAny_mono h₂ (λr s₃ h₃=>wpAny_bind (wpAny_letTemporaryGo (wpAny_pure h₃))) λ_ _ x=>x)
 first
  |exact wpAny_pure (wpAny_bind fin)
  |exact wpAny_bind (wpAny_pure (wpAny_bind fin))
  |exact wpAny_bind fin
section
variable {X:Cx}{o i e value:Expr}{pos pos' tpos:Pos}{td ty tv:TE}
end
section
variable {X:Cx}{pos:Pos}
end
structure M1 (X:Cx)(o:Expr)(m:Str)(apos:Pos)(e:Expr)(cpos:Pos):Prop where
 base:attributeBase o m X.env (eval o X.env)=eval o X.env
 few:((backTo cpos (starEach [e] X.env)).all (λx=>!x.1)&&(backToKw cpos (keywordEach [] X.env)).all (λx=>x.1.isSome)
  &&decide (([e]:List Expr).length+([]:List Keyword).length+(if([]:List Keyword).isEmpty then 0 else 1)<30))=true
 line:(apos.endLine==cpos.line)=true
 trees:backTo cpos (starEach [e] X.env)=[(false,eval e X.env)]
structure M2 (X:Cx)(o:Expr)(m:Str)(apos:Pos)(e f:Expr)(cpos:Pos):Prop where
 base:attributeBase o m X.env (eval o X.env)=eval o X.env
 few:((backTo cpos (starEach [e,f] X.env)).all (λx=>!x.1)&&(backToKw cpos (keywordEach [] X.env)).all (λx=>x.1.isSome)
  &&decide (([e,f]:List Expr).length+([]:List Keyword).length+(if([]:List Keyword).isEmpty then 0 else 1)<30))=true
 line:(apos.endLine==cpos.line)=true
 trees:backTo cpos (starEach [e,f] X.env)=[(false,eval e X.env),(false,eval f X.env)]
section
variable {X:Cx}{pins:List (Addr×Obj)}{σ:St}{H:Hp}{s:Shared}{a:Addr}{y d:V}{u r:Value}{o:Option V}{A:Around}{E:Value->Shared->Prop}
end
section
variable {X:Cx}{o e f:Expr}{apos cpos:Pos}{td ty tx:TE}
end
section
variable {X:Cx}{pins:List (Addr×Obj)}{σ:St}{H:Hp}{s:Shared}{a:Addr}{kvs:List (Key×V)}{A:Around}{E:Value->Shared->Prop}
end
section
variable {X:Cx}{pins:List (Addr×Obj)}{σ:St}{H:Hp}{s:Shared}{a:Addr}{y:V}{u:Value}{A:Around}{E:Value->Shared->Prop}
end
section
variable {X:Cx}
end
section
variable {κ:Type}[DecidableEq κ]
end
theorem Kz {env:Env}:∀(names:List (Str×NameKind)),(∀x∈names,x.2=NameKind.free->∃c,env.cells.lookup x.1=some c)->
  ∀cs:List (Str×Addr),(∀x c,cs.lookup x=some c->env.cells.lookup x=some c)->
  ∃cl:List (Str×Addr),(forIn names cs (λ(x:Str×NameKind) (r:List (Str×Addr))=>(if(x.2==NameKind.free)=true then do let a ←cellOf env x.1;pure (ForInStep.yield ((x.1,a)::r)) else pure (ForInStep.yield r):Sem (ForInStep (List (Str×Addr))))))=(pure cl:Sem (List (Str×Addr)))/\
   (∀x c,cl.lookup x=some c->env.cells.lookup x=some c)/\(∀x,((x,NameKind.free)∈names∨∃c,cs.lookup x=some c)->∃c,cl.lookup x=some c)
 | [],_,cs,hs=>⟨cs,by rw[List.forIn_nil],hs,λx h=>h.elim (λz=>nomatch z) id⟩
 | (n,k)::r,hf,cs,hs=>by
  have hr:∀x∈r,x.2=NameKind.free->∃c,env.cells.lookup x.1=some c:=λx hx=>hf x (List.mem_cons_of_mem _ hx)
  by_cases hk:k=NameKind.free
  ·subst hk
   obtain⟨a,ha⟩:=hf (n,NameKind.free) List.mem_cons_self rfl
   have hs':∀x c,((n,a)::cs).lookup x=some c->env.cells.lookup x=some c:=λx c h=>by
    rw[List.lookup_cons] at h
    by_cases hx:x=n
    ·subst hx
     simp only[beq_self_eq_true] at h
     rw[←h];exact ha
    ·have:(x==n)=false:=beq_eq_false_iff_ne.mpr hx
     rw[this] at h
     exact hs x c h
   obtain⟨cl,e,h1,h2⟩:=Kz r hr ((n,a)::cs) hs'
   refine⟨cl,?_,h1,λx h=>h2 x ?_⟩
   ·rw[List.forIn_cons]
    have e1:cellOf env n=pure a:=by unfold cellOf;rw[show env.cells.lookup n=some a from ha]
    simp only[beq_self_eq_true,if_true,e1]
    exact e
   ·rcases h with h | ⟨c,h⟩
    ·rcases List.mem_cons.mp h with h |h
     ·have:x=n:=congrArg Prod.fst h
      subst this
      exact .inr ⟨a,by rw[List.lookup_cons];simp⟩
     ·exact .inl h
    ·by_cases hx:x=n
     ·subst hx;exact .inr ⟨a,by rw[List.lookup_cons];simp⟩
     ·exact .inr ⟨c,by rw[List.lookup_cons,beq_eq_false_iff_ne.mpr hx];exact h⟩
  ·obtain⟨cl,e,h1,h2⟩:=Kz r hr cs hs
   refine⟨cl,?_,h1,λx h=>h2 x ?_⟩
   ·rw[List.forIn_cons]
    have hb:(k==NameKind.free)=false:=by simpa using hk
    simp only[hb,Bool.false_eq_true,if_false]
    exact e
   ·rcases h with h |h
    ·rcases List.mem_cons.mp h with h |h
     ·exact absurd (congrArg Prod.snd h).symm hk
     ·exact .inl h
    ·exact .inr h
theorem Vm {scope:Scope}{env:Env}(hf:∀x∈scope.names,x.2=NameKind.free->∃c,env.cells.lookup x.1=some c):
  ∃cl:List (Str×Addr),closureFor scope env=pure cl/\(∀x c,cl.lookup x=some c->env.cells.lookup x=some c)/\(∀x,(x,NameKind.free)∈scope.names->∃c,cl.lookup x=some c):=by
 obtain⟨cl,e,h1,h2⟩:=Kz scope.names hf [] (λx c h=>by simp at h)
 refine⟨cl,?_,h1,λx h=>h2 x (.inl h)⟩
 unfold closureFor
 show((forIn scope.names [] (λ(x:Str×NameKind) (r:List (Str×Addr))=>(if(x.2==NameKind.free)=true then do let a ←cellOf env x.1;pure (ForInStep.yield ((x.1,a)::r)) else pure (ForInStep.yield r):Sem (ForInStep (List (Str×Addr)))))) >>= λs=>pure s)=pure cl
 rw[e]
 rfl
theorem Zh {env:Env}:∀{names:List (Str×NameKind)}{x:Str}{k:NameKind},(∀y∈names,y.2≠NameKind.cell)->
  (names.map λ(n,k)=>if(k==NameKind.free&&env.scope.kind== .function&&env.kindOf n==some .cell) then(n,NameKind.cell) else(n,k)).lookup x=some k->(k= .cell∨k= .free)->(x,NameKind.free)∈names
 | [],_,_,_,h,_=>by simp at h
 | (n,kk)::r,x,k,hc,h,hk=>by
  have ih:=@Zh env r x k (λy hy=>hc y (List.mem_cons_of_mem _ hy))
  have hh:=hc (n,kk) List.mem_cons_self
  simp only[List.map_cons] at h
  by_cases hcond:(kk==NameKind.free&&env.scope.kind== .function&&env.kindOf n==some .cell)=true
  ·rw[if_pos hcond,List.lookup_cons] at h
   have hfree:kk=NameKind.free:=by
    rw[Bool.and_eq_true,Bool.and_eq_true] at hcond
    simpa using hcond.1.1
   cases hx:x==n with
   |true=>
    have:x=n:=by simpa using hx
    subst this;subst hfree
    exact List.mem_cons_self
   |false=>rw[hx] at h;exact List.mem_cons_of_mem _ (ih h hk)
  ·rw[if_neg hcond,List.lookup_cons] at h
   cases hx:x==n with
   |true=>
    rw[hx] at h
    have hkk:kk=k:=Option.some.inj h
    have:x=n:=by simpa using hx
    subst this;subst hkk
    rcases hk with z |z
    ·exact absurd z hh
    ·subst z;exact List.mem_cons_self
   |false=>rw[hx] at h;exact List.mem_cons_of_mem _ (ih h hk)
theorem ZJ {env:Env}:∀{names:List (Str×NameKind)}{x:Str},names.lookup x=some .free->
  let l:=(names.map λ(n,k)=>if(k==NameKind.free&&env.scope.kind== .function&&env.kindOf n==some .cell) then(n,NameKind.cell) else(n,k))
  l.lookup x=some .cell∨l.lookup x=some .free
 | [],_,h=>by simp at h
 | (n,kk)::r,x,h=>by
  have ih:=@ZJ env r x
  simp only[List.map_cons]
  rw[List.lookup_cons] at h
  by_cases hcond:(kk==NameKind.free&&env.scope.kind== .function&&env.kindOf n==some .cell)=true
  ·rw[if_pos hcond,List.lookup_cons]
   cases hx:x==n with
   |true=>exact .inl rfl
   |false=>rw[hx] at h;exact ih h
  ·rw[if_neg hcond,List.lookup_cons]
   cases hx:x==n with
   |true=>rw[hx] at h;exact .inr h
   |false=>rw[hx] at h;exact ih h
noncomputable abbrev Cx.comp (X:Cx)(N:List Str)(scope:Scope)(cl:List (Str×Addr))(C:Addr)(s:Shared)(H:Hp)(ex:List Addr)(E:Value->Shared->Prop):Cx:=
 {X with N:=N,s₀:=s,H₀:=H,env:=compEnvC scope cl C X.env,outer:=X.stack,ex:=ex,fn:=λ_=>false,pn:=[],xe:=E}
noncomputable def PTs (X:Cx)(ifs:List Expr)(t:TT):Prop:=
 ∀(pins:List (Addr×Obj)) (s:Shared) (σ:St) (H:Hp) (Q:Bool->Hp->Prop),Inv X pins σ H s->t σ H Q->
  wpAny (model X.prog X.w) X.A (forIn ifs true λc r=>if r=true then do let ok ←isTrue c X.env (eval c X.env);pure (ForInStep.yield ok) else pure (ForInStep.yield r)) (TP X pins σ Q) X.xe s
noncomputable def Jp:TT:=λ_ H Q=>Q true H
theorem CT {σ:St}{H:Hp}{A B:Hp->Prop}(h:A H):Jp σ H λc H5=>if c=true then A H5 else B H5:=by
 show if true=true then A H else B H
 rw[if_pos rfl]
 exact h
theorem Jd {X:Cx}:PTs X [] Jp:=λ_ _ _ H _ I h=>wpAny_tests_nil ⟨H,I,h⟩
theorem FM {X:Cx}{c:Expr}{t:TT}(h:PT X c t):PTs X [c] t:=λpins s σ H Q I hw=>wpAny_tests_one (h pins s σ H Q I hw)
noncomputable def Q6 (n:Nat)(g:TG):Prop:=∀ x σ H Q,g x σ H Q->g x σ H λσ2 H2=>Q σ2 H2/\σ2.length=σ.length/\∀i,n<=i->σ2[i]?=σ[i]?
theorem Qt {n i:Nat}(h:i<n):Q6 n (Y8 i):=λx σ H Q q=>⟨q,by simp,λj hj=>by rw[List.getElem?_set_ne (by lia)]⟩
noncomputable def Zl (n:Nat)(caps:List (Nat×Str))(σ:St):St:=List.replicate n none++caps.map λp=>(σ[p.1]?).join
noncomputable def DB (g:TG)(tt:TT)(te:TE)(σ:St)(Q:VK)(J:It)(W:Nat->Nat->List V->Hp->Prop):Prop:=
 ∀i m ys H2,W i m ys H2->ys.length<=sizeLine/\
  ((J.stop i H2/\∀p,H2 p=none->Q (.ref p) (upd H2 p (.lst ys)))∨
  (J.go i H2/\∃N:List V->Hp->Prop,(∀ys' H',N ys' H'->∃m',m'<m/\W (i+1) m' ys' H')/\∀x H3,J.yld i H2 x H3->g x σ H3 λσ4 H4=>tt σ4 H4 λc H5=>
   if c=true then te σ4 H5 λv H6=>N (ys++[v]) H6 else N ys H5))
noncomputable def G4 (n:Nat)(caps:List (Nat×Str))(g:TG)(tt:TT)(te:TE)(σ:St)(Q:VK)(J:It)(H1:Hp):Prop:=
 ∃W:Nat->Nat->List V->Hp->Prop,(∃m,W 0 m [] H1)/\DB g tt te (Zl n caps σ) Q J W
noncomputable def Um (n:Nat)(caps:List (Nat×Str))(wi:TI)(g:TG)(tt:TT)(te:TE):TE:=λσ H Q=>wi σ H λJ H1=>G4 n caps g tt te σ Q J H1
noncomputable def QP (sc scope:Scope)(N0 tns:List Str)(caps:List (Nat×Str)):Bool:=
 scope.kind== .function&&scope.names.all (λy=>!(y.2== .cell))&&scope.names.all (λy=>!(y.2== .local) || scope.names.lookup y.1==some .local)&&
 scope.names.all (λy=>!(y.2== .free) || sc.names.lookup y.1==some .cell)&&caps.all (λp=>N0[p.1]?==some p.2&&sc.names.lookup p.2==some .cell&&scope.names.lookup p.2==some .free)
theorem JD {α:Type}{p:α}{P:Prop}(h:p∈([]:List α)):P:=nomatch h
noncomputable def Be (M:Model)(A:Around)(elt tg:Expr)(ifs:List Expr)(acc:Value)(env:Env)(E:Value->Shared->Prop)(K:Shared->Prop)(v:Value)(s:Shared):Prop:=
 wpAny M A (assign tg env v) (λ_ s₂=>wpAny M A (forIn ifs true λc r=>if r=true then do let ok ←isTrue c env (eval c env);pure (ForInStep.yield ok) else pure (ForInStep.yield r)) (λok s₃=>
  if ok=true then wpAny M A (eval elt env) (λx s₄=>wpAny M A (call (.builtin "list.append") [acc,x]) (λ_ s₅=>K s₅) E s₄) E s₃ else K s₃) E s₂) E s
noncomputable def BA (M:Model)(A:Around)(elt tg:Expr)(ifs:List Expr)(it acc:Value)(env:Env)(E:Value->Shared->Prop)(Rn K:Shared->Prop)(s:Shared):Prop:=
 wpAny M A (pyNext it) (λr s₁=>r=none/\Rn s₁∨∃v,r=some v/\wpAny M A (letOwnedTupleGo tg it v) (λ_ s₁=>Be M A elt tg ifs acc env E K v s₁) E s₁) E s
section
variable {prog:Program}{w:World}{A:Around}{R:Result->Shared->Prop}{s:Shared}
theorem JR {elt target iter:Expr}{ifs:List Expr}{scope:Scope}{pos:Pos}{it acc:Value}{env:Env}{E:Value->Shared->Prop}(I:Nat->Shared->Prop)(hE:(notedBy (model prog w) A env λe s'=>R (.error e) s')=E)
  (turn:∀n s,I n s->BA (model prog w) A elt target ifs it acc env E (λs=>R (.ok .next) s) (λs=>∃ m,m<n/\I m s) s)(n:Nat)(h:I n s):
  codeAny (model prog w) A (.compLoop (.ListComp elt [⟨target,iter,ifs,0⟩] scope pos) 0 it acc env) R s:=by
 subst hE
 refine codeAny_loop rfl I (λn s hI=>?_) n h
 show wpAny _ A ((compTurn (.ListComp elt [⟨target,iter,ifs,0⟩] scope pos) 0 it acc env).onRaise (λx=>do noteFrame x env;theTreesLotGoes x)) _ _ s
 refine wpAny_noted ?_
 rw[compTurn_list]
 refine wpAny_bind (wpAny_standAt (wpAny_bind (thn (turn n s hI) λr s₁ h₁=>?_)))
 rcases h₁ with⟨rfl,h₁⟩ | ⟨v,rfl,h₁⟩
 ·exact wpAny_pure h₁
 ·refine wpAny_bind (thn h₁ λ_ s₁' h₁'=>wpAny_bind (thn h₁' λ_ s₂ h₂=>wpAny_bind (thn h₂ λok s₃ h₃=>?_)))
  cases ok with
  |false=>exact wpAny_pure ⟨rfl,h₃⟩
  |true=>exact wpAny_bind (wpAny_bind (thn h₃ λx s₄ h₄=>wpAny_bind (thn h₄ λ_ s₅ h₅=>wpAny_pure (wpAny_pure ⟨rfl,h₅⟩))))
end
noncomputable def lob (its:List Value)(k:Nat):Obj:={cls:=.type "list",data:=.seq (List.toArray its) k}
structure CIn (Y:Cx)(tn:Nat->Heap->Prop)(fp:List Addr)(D:Addr)(σ:St)(i:Nat)(H:Hp)(o:Obj)(s:Shared):Prop where
 I:Inv Y [] σ H s
 t:tn i s.heap
 f:∀b∈fp,H b=none
 l:s.heap.get? D=some o
 n:H D=none
inductive CI (Y:Cx)(tn:Nat->Heap->Prop)(fp:List Addr)(D:Addr)(σ:St)(W:Nat->Nat->List V->Hp->Prop)(m:Nat)(s:Shared):Prop
 |mk (i:Nat) (H:Hp) (ys:List V) (its:List Value) (k:Nat) (c:CIn Y tn fp D σ i H (lob its k) s) (r:XJ ys its) (w:W i m ys H)
structure CAt (Y:Cx)(fp:List Addr)(D:Addr):Prop where
 calm:Y.calm=true
 pn:Y.pn=[]
 ne:D≠Y.env.locals
 fs:D∉Y.fs
 sz:Y.s₀.heap.objs.size<=D
 cl:∀x c,Y.env.cells.lookup x=some c->c≠D
 fpn:∀b∈fp,b≠D
 ok:∀b∈fp,∀H:Hp,H b=none->Vu Y [] H b
section
variable {Y:Cx}{tn:Nat->Heap->Prop}{fp:List Addr}{D it:Addr}{σ:St}{tg elt iter:Expr}{ifs:List Expr}{J:It}{g:TG}{tt:TT}{te:TE}{n i:Nat}{H:Hp}{s:Shared}{o:Obj}{Kn:Shared->Prop}
theorem CAt.pins (c:CAt Y fp D)(hn:∀b∈fp,H b=none):∀b∈fp,Vu Y [(D,o)] H b:=λb hb=>
 have z:=c.ok b hb H (hn b hb)
 ⟨z.1,z.2.1,z.2.2.1,z.2.2.2.1,z.2.2.2.2.1,λp hp e=>by
  rw[c.pn] at hp
  cases List.mem_singleton.mp hp
  exact c.fpn b hb e.symm⟩
theorem VS (T:Turn Y.prog Y.w Y.K tg J fp it tn){h5:Heap}(t:tn i h5)(I:Inv Y ([(D,o)]++JI fp h5) σ H s):CIn Y tn fp D σ i H o s:=
 have p:=I.pin (D,o) (List.mem_append_right _ (.head _))
 have q:∀b∈fp,∀o',h5.get? b=some o'->s.heap.get? b=some o'/\H b=none:=λb hb o' e=>have z:=I.pin (b,o') (List.mem_append_right _ (.tail _ (ZA hb e)));⟨z.1,z.2.1⟩
 ⟨I.pins_of (pins':=[]) λ_ h=>JD h,T.keep _ _ _ t λb hb o' e=>(q b hb o' e).1,λb hb=>(T.obj _ _ t b hb).elim λo' e=>(q b hb o' e.1).2,p.1,p.2.1⟩
theorem Ec (T:Turn Y.prog Y.w Y.K tg J fp it tn)(a:CAt Y fp D){its:List Value}{k:Nat}{v:Value}{E:Value->Shared->Prop}(c:CIn Y tn fp D σ i H (lob its k) s)(hz:its.length<=sizeLine)
  (hQ:∀k' s',CIn Y tn fp D σ i H (lob (its++[v]) k') s'->Kn s'):wpAny (model Y.prog Y.w) Y.A (call (.builtin "list.append") [.ref D,v]) (λ_ s=>Kn s) E s:=by
 refine call_meets F.slot_list_append ⟨_,c.l,rfl⟩ F.entry_list_append (F.args_list_append_2 _ _) (PySem.list_append D (List.toArray its) k v hz) ⟨c.l,?_⟩
 have q:∃k',PySem.IsL (s.heap.update D (Obj.mapSeq (·.push v))) D ((List.toArray its).push v) k':=⟨_,PySem.IsL.update c.l (·.push v)⟩
 rw[List.push_toArray] at q
 obtain⟨k',q⟩:=q
 exact hQ k' _ ⟨c.I.turned (t':=s.toks) (h':=s.heap.update D (Obj.mapSeq (·.push v))) (it:=D) (λb o hb' e=>(Heap.get?_update_other s.heap _ (Ne.symm hb')).trans e) c.n a.ne (.inr a.sz) a.cl (λp hp=>by rw[a.pn] at hp;exact JD hp),
  T.keep _ _ _ c.t λb hb o e=>(Heap.get?_update_other s.heap _ (Ne.symm (a.fpn b hb))).trans e,c.f,q,c.n⟩
theorem GB {acc:Value}{pins:List (Addr×Obj)}{N:List V->Hp->Prop}{ys:List V}{x:V}{u:Value}(hg:PG Y tg g)(ht:PTs Y ifs tt)(he:PE Y elt te)(hG:Q6 n g)(h0:∀(j:Nat) v,σ[j]?=some (some v)->n<=j)
  (I:Inv Y pins σ H s)(r:XV x u)(st:g x σ H λσ4 H4=>tt σ4 H4 λc H5=>if c=true then te σ4 H5 λv H6=>N (ys++[v]) H6 else N ys H5)
  (hF:∀H7 s7,Inv Y pins σ H7 s7->N ys H7->Kn s7)(hT:∀H8 s8 y v,Inv Y pins σ H8 s8->XV y v->N (ys++[y]) H8->wpAny (model Y.prog Y.w) Y.A (call (.builtin "list.append") [acc,v]) (λ_ s=>Kn s) Y.xe s8):
  Be (model Y.prog Y.w) Y.A elt tg ifs acc Y.env Y.xe Kn u s:=by
 refine thn (hg _ s _ H x u _ I r (hG _ _ _ _ st)) λ_ s6 r9=>?_
 obtain⟨σ6,H6,I6,q6,l6,k6⟩:=r9
 have wk:∀(j:Nat) v,σ[j]?=some (some v)->σ6[j]?=some (some v):=λj v e=>(k6 j (h0 j v e)).trans e
 refine thn (ht _ s6 σ6 H6 _ I6 q6) λc s7 r9=>?_
 obtain⟨H7,I7,q7⟩:=r9
 cases c with
 |false=>exact hF _ _ (I7.weak l6.symm wk) q7
 |true=>exact thn (he _ s7 σ6 H7 _ I7 q7) λv8 s8 r9=>by obtain⟨y8,H8,I8,r8,n8⟩:=r9;exact hT _ _ _ _ (I8.weak l6.symm wk) r8 n8
theorem QH {scope:Scope}{pos:Pos}{Q:V->Hp->Prop}{R:Result->Shared->Prop}(hE:(notedBy (model Y.prog Y.w) Y.A Y.env λe s'=>R (.error e) s')=Y.xe)
  (T:Turn Y.prog Y.w Y.K tg J fp it tn)(hG:Q6 n g)(hg:PG Y tg g)(ht:PTs Y ifs tt)(he:PE Y elt te)(a:CAt Y fp D)(h0:∀(j:Nat) v,σ[j]?=some (some v)->n<=j)
  {W:Nat->Nat->List V->Hp->Prop}(turn:DB g tt te σ Q J W)
  (hEnd:∀ys its k H3 s4,Inv Y [(D,lob its k)] σ H3 s4->XJ ys its->ys.length<=sizeLine->Q (.ref D) (upd H3 D (.lst ys))->R (.ok .next) s4){m0:Nat}(hi:CI Y tn fp D σ W m0 s):
  codeAny (model Y.prog Y.w) Y.A (.compLoop (.ListComp elt [⟨tg,iter,ifs,0⟩] scope pos) 0 (.ref it) (.ref D) Y.env) R s:=by
 refine JR (CI Y tn fp D σ W) hE (λm s3 c=>?_) m0 hi
 cases c with
 |mk i H3 ys its k c rv w3=>
 have I3:Inv Y [(D,lob its k)] σ H3 s3:=c.I.pins_of λp hp=>List.mem_singleton.mp hp▸⟨c.l,c.n,a.ne,a.fs,λ_ z=>by cases z⟩
 have t:=turn i m ys H3 w3
 refine t.2.elim (λq=>?_) λq=>?_
 ·exact thn (T.done Y rfl rfl rfl a.calm i _ s3 _ H3 Y.xe I3 (a.pins c.f) c.t q.1) λr s4 h=>.inl ⟨h.1,hEnd ys its k H3 s4 h.2 rv t.1 (q.2 D c.n)⟩
 ·refine q.2.elim λNN h=>?_
  refine thn (T.item Y rfl rfl rfl a.calm i _ s3 _ H3 Y.xe I3 (a.pins c.f) c.t q.1) λr s4 h4=>.inr (h4.elim λu h4=>⟨u,h4.1,thn h4.2 λ_ s5 h5=>h5.elim λx h5=>h5.elim λH5 h5=>?_⟩)
  exact GB hg ht he hG h0 (h5.1.pinned (a.pins h5.2.2.2.2) (T.obj _ _ h5.2.2.2.1)) h5.2.1 (h.2 x H5 h5.2.2.1)
   (λH7 s7 I7 q7=>(h.1 _ _ q7).elim λm' z=>⟨m',z.1, .mk (i+1) H7 ys its k (VS T h5.2.2.2.1 I7) rv z.2⟩)
   λH8 s8 y v I8 r8 q8=>(h.1 _ _ q8).elim λm' z=>Ec T a (VS T h5.2.2.2.1 I8) (rv.length▸t.1) λk' s' c'=>⟨m',z.1, .mk (i+1) H8 (ys++[y]) (its++[v]) k' c' (rv.append (.cons r8 .nil)) z.2⟩
end
section
variable {X:Cx}{elt tg iter:Expr}{ifs:List Expr}{scope sc:Scope}{pos:Pos}{n:Nat}{tns:List Str}{caps:List (Nat×Str)}{wi:TI}{g:TG}{tt:TT}{te:TE}
structure CompEnd (X:Cx)(pins:List (Addr×Obj))(σ:St)(H3:Hp)(D C:Addr)(ys:List V)(s':Shared):Prop where
 inv:Inv X pins σ (upd H3 D (.lst ys)) s'
 fresh:H3 D=none
 fp:Vu X pins (upd H3 D (.lst ys)) C
 ns:∃m,s'.heap.Ns C m
theorem Ua {pins:List (Addr×Obj)}{σ σ':St}{H H3:Hp}{s s4:Shared}{D C:Addr}{fp:List Addr}{its:List Value}{k:Nat}{ys:List V}{Y:Cx}(I:Inv X pins σ H s)(hf:∀b∈fp,Vu X pins H b)(hD:s.heap.objs.size<=D)(hDlt:D<C)
  (I4:Inv Y [(D,lob its k)] σ' H3 s4)(hos:s4.os=s.os)(u:Un (frs X.stack) fp H H3 s.heap s4.heap)(hok:HOk X.prog X.w H3 s4.heap)(hC:Y.env.locals=C)(rv:XJ ys its)(hz:ys.length<=sizeLine):CompEnd X pins σ H3 D C ys s4:=by
 subst hC
 have p:=I4.pin (D,lob its k) (List.mem_append_right _ (.head _))
 have hDn:H3 D=none:=p.2.1
 have up:∀{b:Addr}{o:HO},H3 b=some o->upd H3 D (.lst ys) b=some o:=λe=>(Xr (Xu e hDn)).trans e
 refine⟨I.call' (ch:=fp) hos ⟨u.keep,u.slot,λb o e nn hx=>(Xr (Nat.ne_of_lt (Nat.lt_of_lt_of_le (Heap.lt_size e) hD))).trans (u.free b o e nn hx),u.there,λb xs e=>up (u.tups b xs e),λb o xs e=>up (u.frzs b o xs e),λb ps e=>(u.tbls b ps e).elim λmore z=>⟨more,up z⟩⟩ (λa o e=>?_) I4.bare λb hb=>have z:=hf b hb;⟨z.2.2.2.1,z.2.1,z.2.2.2.2.1,z.2.2.2.2.2⟩,hDn,I.fpOk (Nat.le_trans hD (Nat.le_of_lt hDlt)) ((Xr (Nat.ne_of_gt hDlt)).trans I4.free),I4.loc.elim λm z=>⟨m,z.1⟩⟩
 by_cases ha:a=D
 ·subst ha
  rw[XU] at e;cases e
  exact⟨hz,its,k,rv,p.1⟩
 ·rw[Xr ha] at e
  exact(hok a o e).stay (λb u _ q=>q) (λb q=>up q) λb xs q=>up q
noncomputable def Ea (X:Cx)(elt tg iter:Expr)(ifs:List Expr)(scope:Scope)(pos:Pos)(it:Value)(cl:List (Str×Addr))(RR:Value->Addr->Result->Shared->Prop)(E:Value->Shared->Prop)(s:Shared):Prop:=
 wpAny (model X.prog X.w) X.A (newList []) (λacc s₃=>wpAny (model X.prog X.w) X.A (newFunctionEnv scope X.env.globals cl [] X.env.qual none .none (some X.env)) (λcenv s₄=>
   codeAny (model X.prog X.w) X.A (.compStart (.ListComp elt [⟨tg,iter,ifs,0⟩] scope pos) 0 it acc {cenv with scope:=relabel scope X.env}) (RR acc cenv.locals) s₄) E s₃) E s
theorem Qc {σ:St}{i:Nat}{v:V}(e:(Zl n caps σ)[i]?=some (some v)):n<=i/\∃p,caps[i-n]?=some p/\σ[p.1]?=some (some v):=by
 unfold Zl at e
 by_cases h:i<n
 ·rw[List.getElem?_append_left (by simpa using h),List.getElem?_replicate,if_pos h] at e
  cases e
 ·have hi:=Nat.le_of_not_lt h
  rw[List.getElem?_append_right (by simpa using hi),List.length_replicate,List.getElem?_map] at e
  refine⟨hi,?_⟩
  cases hcp:caps[i-n]? with
  |none=>rw[hcp] at e;cases e
  |some p=>
   rw[hcp] at e
   exact⟨p,rfl,Option.join_eq_some_iff.mp (Option.some.inj e)⟩
structure COk (X:Cx)(scope:Scope)(caps:List (Nat×Str)):Prop where
 kind:scope.kind= .function
 cell:∀y∈scope.names,y.2≠NameKind.cell
 loc:∀y∈scope.names,y.2= .local->scope.names.lookup y.1=some .local
 free:∀y∈scope.names,y.2= .free->X.env.scope.names.lookup y.1=some .cell
 caps:∀p∈caps,(X.N[p.1]?=some p.2/\X.env.scope.names.lookup p.2=some .cell)/\scope.names.lookup p.2=some .free
theorem COk.of {N0:List Str}(hsc:X.env.scope=sc)(hN0:X.N=N0)(ok:QP sc scope N0 tns caps=true):COk X scope caps:=by
 subst hsc
 subst hN0
 unfold QP at ok
 simp only[Bool.and_eq_true,List.all_eq_true,beq_iff_eq,Bool.or_eq_true,Bool.not_eq_true',beq_eq_false_iff_ne] at ok
 exact⟨ok.1.1.1.1,ok.1.1.1.2,λy hy e=>(ok.1.1.2 y hy).resolve_left (absurd e),λy hy e=>(ok.1.2 y hy).resolve_left (absurd e),ok.2⟩
section
variable {pins:List (Addr×Obj)}{σ:St}{H:Hp}{s:Shared}{fp:List Addr}{cl:List (Str×Addr)}{C:Addr}{E:Value->Shared->Prop}{N:List Str}{h₁:Heap}
theorem K3 (ok:COk X scope caps)(I:Inv X pins σ H s)(hf:∀b∈fp,Vu X pins H b)(hlt:∀b∈fp,b<s.heap.objs.size)
  (hsub:∀x c,cl.lookup x=some c->X.env.cells.lookup x=some c)(hall:∀x,(x,NameKind.free)∈scope.names->∃c,cl.lookup x=some c)(hC:s.heap.objs.size<C):(X.comp N scope cl C s H fp E).Ok:=
 ⟨I.ok.mod,ok.kind,I.ok.glob,I.ok.blt,Nat.le_of_lt hC,λx y c h1 h2=>I.ok.inj x y c (hsub x c h1) (hsub y c h2),λx hx=>hall x (hx.elim (λz=>Zh ok.cell z (.inl rfl)) λz=>Zh ok.cell z (.inr rfl)),(λx c hx=>by cases hx),I.ok.hd,I.ok.frames, .inl rfl,
  λb hb=>⟨Nat.ne_of_lt (Nat.lt_trans (hlt b hb) hC),λx c e=>(hf b hb).2.2.2.2.1 x c (hsub x c e)⟩,I.bs,Nat.le_trans I.ok.bsz I.sz,λb o e hb=>(hf b hb).2.2.2.1.elim (I.ok.noex b o e) λz=>absurd (Nat.lt_of_lt_of_le (Heap.lt_size e) (Nat.le_trans I.ok.bsz z)) (Nat.lt_irrefl _),
  λb hb hz=>(List.mem_cons.mp (I.stkSub b hz)).elim (hf b hb).2.1 (hf b hb).2.2.1,I.stack,I.stkFree⟩
theorem VL (okc:COk X scope caps)(hn:tns.length=n)(ok:(X.comp (tns++caps.map (·.2)) scope cl C s H fp E).Ok)(I:Inv X pins σ H s)
  (hsub:∀x c,cl.lookup x=some c->X.env.cells.lookup x=some c)(hall:∀x,(x,NameKind.free)∈scope.names->∃c,cl.lookup x=some c)(hC:s.heap.objs.size<C)(hns:h₁.Ns C λ_=>none)(old:∀b o,s.heap.get? b=some o->h₁.get? b=some o){tk:Nat}:
  Inv (X.comp (tns++caps.map (·.2)) scope cl C s H fp E) [] (Zl n caps σ) H {s with heap:=h₁,toks:=tk}:=by
 refine⟨ok,rfl,I.bare,Un.kept old,⟨_,hns,λi x v e1 e2 _=>?_⟩,λx c e=>(I.cell x c (hsub x c e)).elim λv z=>z.elim λo z=>⟨v,o,old _ _ z.1,z.2⟩,I.hok.fresh (Nat.le_of_lt hC),λx c e=>I.freeC x c (hsub x c e),λp hp=>JD (α:=Addr×Obj) hp,I.hok.kept old,by simp[Zl,hn]⟩
 obtain⟨hi,p,hp,hσ⟩:=Qc e2
 have e1':(tns++caps.map (·.2))[i]?=some x:=e1
 rw[List.getElem?_append_right (hn▸hi),hn,List.getElem?_map,hp] at e1'
 cases Option.some.inj e1'
 have p5:=okc.caps p (List.mem_of_getElem? hp)
 obtain⟨m,hm,hl⟩:=I.loc
 obtain⟨u,r,l⟩:=hl p.1 p.2 v p5.1.1 hσ (.inr (.inl p5.1.2))
 refine⟨u,r, .inr ?_⟩
 rcases l with⟨k,_⟩ | ⟨k,c,e,z⟩
 ·cases p5.1.2.symm.trans k
 ·obtain⟨c',e'⟩:=hall p.2 (PySem.mem_of_lookup p5.2)
  cases e.symm.trans (hsub _ _ e')
  exact⟨ZJ (env:=X.env) p5.2,c,e',z.elim λo z=>⟨o,old _ _ z.1,z.2⟩⟩
variable {J:It}{it:Addr}{tn:Nat->Heap->Prop}{Q:V->Hp->Prop}{RR:Value->Addr->Result->Shared->Prop}{W:Nat->Nat->List V->Hp->Prop}{m0:Nat}
theorem Fy (ok:COk X scope caps)(hc:X.calm=true)(hn:tns.length=n)(hG:Q6 n g)
  (hb:∀cl C s H ex E,PG (X.comp (tns++caps.map (·.2)) scope cl C s H ex E) tg g/\PTs (X.comp (tns++caps.map (·.2)) scope cl C s H ex E) ifs tt/\PE (X.comp (tns++caps.map (·.2)) scope cl C s H ex E) elt te)
  (I:Inv X pins σ H s)(T:Turn X.prog X.w X.K tg J fp it tn)(t0:tn 0 s.heap)(hf:∀b∈fp,Vu X pins H b)
  (hsub:∀x c,cl.lookup x=some c->X.env.cells.lookup x=some c)(hall:∀x,(x,NameKind.free)∈scope.names->∃c,cl.lookup x=some c)
  (w0:W 0 m0 [] H)(turn:DB g tt te (Zl n caps σ) Q J W)
  (hRR:∀D C ys H3 s',CompEnd X pins σ H3 D C ys s'->Q (.ref D) (upd H3 D (.lst ys))->RR (.ref D) C (.ok .next) s')
  (hC:s.heap.objs.size<C)(hns:h₁.Ns C λ_=>none)(old:∀b o,s.heap.get? b=some o->h₁.get? b=some o)(hacc:h₁.get? s.heap.objs.size=some (lob [] 0)){tk:Nat}:
  codeAny (model X.prog X.w) X.A (.compStart (.ListComp elt [⟨tg,iter,ifs,0⟩] scope pos) 0 (.ref it) (.ref s.heap.objs.size) (compEnvC scope cl C X.env)) (RR (.ref s.heap.objs.size) C) {s with heap:=h₁,toks:=tk}:=by
 have hlt:∀b∈fp,b<s.heap.objs.size:=λb hb=>(T.obj _ _ t0 b hb).elim λo e=>Heap.lt_size e.1
 have okY:∀E,(X.comp (tns++caps.map (·.2)) scope cl C s H fp E).Ok:=λE=>K3 ok I hf hlt hsub hall hC
 have t1:tn 0 h₁:=T.keep _ _ _ t0 λb _ o e=>old b o e
 have loop:∀tk,codeAny (model X.prog X.w) X.A (.compLoop (.ListComp elt [⟨tg,iter,ifs,0⟩] scope pos) 0 (.ref it) (.ref s.heap.objs.size) (compEnvC scope cl C X.env)) (RR (.ref s.heap.objs.size) C) {s with heap:=h₁,toks:=tk}:=λtk=>
  have z:=hb cl C s H fp (notedBy (model X.prog X.w) X.A (compEnvC scope cl C X.env) λe s'=>RR (.ref s.heap.objs.size) C (.error e) s')
  QH (Y:=X.comp (tns++caps.map (·.2)) scope cl C s H fp _) rfl T hG z.1 z.2.1 z.2.2
   ⟨hc,rfl,Nat.ne_of_lt hC,λhz=>(I.stack.mem hz).2.elim λo ho=>absurd (Heap.lt_size ho.1) (Nat.lt_irrefl _),Nat.le_refl _,λx c e=>(I.cell x c (hsub x c e)).elim λv z=>Nat.ne_of_lt z.lt,λb hb=>Nat.ne_of_lt (hlt b hb),
    λb hb H' h'=>⟨h',Nat.ne_of_lt (Nat.lt_trans (hlt b hb) hC),(okY λ_ _=>True).exfs b hb, .inl hb,λx c e=>(hf b hb).2.2.2.2.1 x c (hsub x c e),λp hp=>JD (α:=Addr×Obj) hp⟩⟩
   (λj v e=>(Qc e).1) turn (λys its k H3 s4 I4 rv hz q=>hRR _ C ys H3 s4 (Ua I hf (Nat.le_refl _) hC I4 I4.os I4.base I4.hok rfl rv hz) q)
   (.mk 0 H [] [] 0 ⟨VL ok hn (okY _) I hsub hall hC hns old,t1,λb hb=>(hf b hb).1,hacc,I.hok.fresh (Nat.le_refl _)⟩ .nil w0)
 exact codeAny_compStart_list (loop _) (T.self _ 0 _ _ _ t1 (loop _))
theorem QM (ok:COk X scope caps)(hc:X.calm=true)(hn:tns.length=n)(hG:Q6 n g)
  (hb:∀cl C s H ex E,PG (X.comp (tns++caps.map (·.2)) scope cl C s H ex E) tg g/\PTs (X.comp (tns++caps.map (·.2)) scope cl C s H ex E) ifs tt/\PE (X.comp (tns++caps.map (·.2)) scope cl C s H ex E) elt te)
  {itv:Value}(h:PIE X pins σ tg (λJ H1=>G4 n caps g tt te σ Q J H1) itv s)
  (hsub:∀x c,cl.lookup x=some c->X.env.cells.lookup x=some c)(hall:∀x,(x,NameKind.free)∈scope.names->∃c,cl.lookup x=some c)
  (hRR:∀D C ys H3 s',CompEnd X pins σ H3 D C ys s'->Q (.ref D) (upd H3 D (.lst ys))->RR (.ref D) C (.ok .next) s'):
  Ea X elt tg iter ifs scope pos itv cl RR E s:=by
 obtain⟨it,fp,tn,J,H',rfl,I,T,t0,hf,W,⟨m0,w0⟩,turn⟩:=h
 refine wpAny_newObj_type (wpAny_newFunctionEnv ok.cell (by intro y hy;simp at hy) (λh₁ hns₁ hsb₁=>?_) ok.kind)
 have hs:∀o,(s.heap.push o).objs.size=s.heap.objs.size+1:=λo=>Heap.size_push ..
 exact Fy ok hc hn hG hb I T t0 hf hsub hall w0 turn hRR (Nat.lt_of_lt_of_eq (Nat.lt_succ_self _) (hs _).symm) hns₁
  (λb o e=>hsb₁.extBut b o (Nat.ne_of_lt (Nat.lt_trans (Heap.lt_size e) (Nat.lt_of_lt_of_eq (Nat.lt_succ_self _) (hs _).symm))) (Heap.get?_push_of_some _ (Heap.get?_push_of_some _ e)))
  (hsb₁.extBut _ _ (Nat.ne_of_lt (Nat.lt_of_lt_of_eq (Nat.lt_succ_self _) (hs _).symm)) (Heap.get?_push_of_some _ (Heap.get?_push_size _ rfl)))
end
theorem FX (sc:Scope)(N0:List Str)(tns:List Str)(caps:List (Nat×Str))(hc:X.calm=true)(hi:PI X tg iter wi)(hG:Q6 tns.length g)
  (hb:∀cl C s H ex E,PG (X.comp (tns++caps.map (·.2)) scope cl C s H ex E) tg g/\PTs (X.comp (tns++caps.map (·.2)) scope cl C s H ex E) ifs tt/\PE (X.comp (tns++caps.map (·.2)) scope cl C s H ex E) elt te)
  (hsc:X.env.scope=sc:=by rfl)(hN0:X.N=N0:=by rfl)(ok:QP sc scope N0 tns caps=true:=by decide+kernel)
  (hs:∀x,foldedSetIterable iter X.env x=pure x:=by intro _;rfl):
  PE X (.ListComp elt [⟨tg,iter,ifs,0⟩] scope pos) (Um tns.length caps wi g tt te):=by
 intro pins s σ H Q I h
 have okc:=COk.of hsc hN0 ok
 obtain⟨cl,ecl,hsub,hall⟩:=Vm (scope:=scope) (env:=X.env) λx hx hfr=>I.ok.has x.1 (.inl (okc.free x hx hfr))
 rw[eval_ListComp]
 exact wpAny_comprehension_free (use:=none) rfl hs ecl okc.kind okc.loc (thn (hi pins s σ H _ I h) λxv s₁ h₁=>thn h₁ λitv s₂ h₂=>
  QM (RR:=λacc C=>compPost (model X.prog X.w) X.A X.xe none (EP X pins σ Q) acc C) okc hc rfl hG hb h₂ hsub hall λD C ys H3 s' ce q=>ce.ns.elim λmm hns=>
   ⟨mm,hns,λh' hs'=>⟨.ref D,_,ce.inv.turned (t':=s'.toks) (λb o hb' e=>(hs'.extBut b o hb' e)) ce.fp.1 ce.fp.2.1 ce.fp.2.2.2.1 ce.fp.2.2.2.2.1 ce.fp.2.2.2.2.2,rfl,q⟩⟩)
theorem UJ {x:Str}{px spos:Pos}(j:Nat)(sc:Scope)(N0:List Str)(tns:List Str)(caps:List (Nat×Str))(hc:X.calm=true)(hN:X.N.Nodup)(hj:X.N[j]?=some x)(hx:X.env.scope.names.lookup x=some .local)(hi:PI X tg iter wi)(hG:Q6 tns.length g)
  (hb:∀cl C s H ex E,PG (X.comp (tns++caps.map (·.2)) scope cl C s H ex E) tg g/\PTs (X.comp (tns++caps.map (·.2)) scope cl C s H ex E) ifs tt/\PE (X.comp (tns++caps.map (·.2)) scope cl C s H ex E) elt te)
  (hsc:X.env.scope=sc:=by rfl)(hN0:X.N=N0:=by rfl)(ok:QP sc scope N0 tns caps=true:=by decide+kernel)
  (hsw:swapsWith (.ListComp elt [⟨tg,iter,ifs,0⟩] scope pos) (some (.Name x px)) spos.line X.env=pure true:=by rfl)
  (hs:∀x,foldedSetIterable iter X.env x=pure x:=by intro _;rfl):
  PS X (.Assign [.Name x px] (.ListComp elt [⟨tg,iter,ifs,0⟩] scope pos) spos) (G1 (Um tns.length caps wi g tt te) (Y8 j)):=by
 intro pins s σ H D I h
 have okc:=COk.of hsc hN0 ok
 obtain⟨cl,ecl,hsub,hall⟩:=Vm (scope:=scope) (env:=X.env) λx hx hfr=>I.ok.has x.1 (.inl (okc.free x hx hfr))
 rw[exec_Assign_Name_used _ _ _ _ hsw]
 refine wpAny_bind (wpAny_standAt (wpAny_bind ?_))
 show wpAny _ _ (do let _ ←comprehension (.ListComp elt [⟨tg,iter,ifs,0⟩] scope pos) scope X.env _ (newList []) false (eval iter X.env) (some (assign (.Name x px) X.env))) _ _ s
 refine wpAny_bind (thn (wpAny_comprehension_free (use:=some (assign (.Name x px) X.env)) (Q:=λ_ s'=>SP X pins D .next s') rfl hs ecl okc.kind okc.loc
  (thn (hi pins s σ H _ I h) λxv s₁ h₁=>thn h₁ λitv s₂ h₂=>?_)) λ_ s' hq=>wpAny_pure (wpAny_pure hq))
 refine QM (Q:=λv H1=>Y8 j v σ H1 D.nx) (RR:=λacc C=>compPost (model X.prog X.w) X.A X.xe (some (assign (.Name x px) X.env)) (λ_ s'=>SP X pins D .next s') acc C) okc hc rfl hG hb h₂ hsub hall ?_
 intro DD C ys H3 s' ce q
 obtain⟨mm,hns⟩:=ce.ns
 obtain⟨c0,c1,c2,c3,c4,c5⟩:=ce.fp
 show wpAny _ _ (assign (.Name x px) X.env (.ref DD)) _ _ _
 refine wpAny_assign_Name (Ql ce.inv hN hj (.inl hx) (v:=.ref DD) rfl (λs2 I2 chg=>?_) (.inr hx))
 obtain⟨c,hsb,hcc⟩:=chg
 have hCc:C≠c:=by
  rcases hcc with z |z
  ·rw[z];exact c1
  ·exact λe=>c4 x c z e.symm
 refine⟨mm,?_,λh' hs'=>?_⟩
 ·obtain⟨o,es,ep,ho,r⟩:=hns
  exact⟨o,es,ep,(hsb.2 C hCc).trans ho,r⟩
 ·exact⟨_,_,I2.turned (t':=s2.toks) (λb o hb' e=>(hs'.extBut b o hb' e)) c0 c1 c3 c4 c5,q⟩
end
section
variable {K:PySem.W.Frag}{a:Addr}{xs:List V}{n:Nat}{caps:List (Nat×Str)}{g:TG}{tt:TT}{te:TE}{σ:St}{H:Hp}{Q:V->Hp->Prop}
end
section
variable {X:Cx}{pos:Pos}
noncomputable def VY (K:PySem.W.Frag):List V->Hp->VK->Prop:=λxs H Q=>∃ p ys,xs=[.ref p]/\(SqL K H p ys∨SqT K H p ys)/\Q (.int ys.length) H
theorem Xz (K:PySem.W.Frag)(h:X.K=K):Y9 X (.builtin "len") (VY K):=by subst h;exact JS
theorem Xp (K:PySem.W.Frag)(h:X.K=K):IxR X (Bk K):=by subst h;exact FR
theorem X4 (K:PySem.W.Frag)(h:X.K=K):IxR X (CJ K):=by subst h;exact CH
theorem Jq (K:PySem.W.Frag)(h:X.K=K):SlR X (Bn K):=by subst h;exact De
end
structure Fn (P:Program)(w:World)(K:PySem.W.Frag)(mg:Str->Option Value)(base:Heap)(k:Nat)(x:Str)(ps:List Str)(sp:Sp):Prop where
 ex:∃f fd,FnOk P w K mg base CX0 k f fd ps sp/\JF K fd ps []/\PySem.W.keepIn K (.ref f)=true/\mg x=some (.ref f)
section
variable {X:Cx}{k j:Nat}{x:Str}{ps:List Str}{sp:Sp}{e:Expr}{es:List Expr}{t:TA}{p pos:Pos}
theorem YE (G:Fn X.prog X.w X.K X.mg X.base k x ps sp)(hr:Room j X.A)(hj:k<=j)(ha:PA X (e::es) t)(hg:Gl X x:=by rfl)(hdb:(x==("__debug__":Str))=false:=by decide)
  (he:starEach (e::es) X.env=(false,eval e X.env)::starEach es X.env:=by rfl)(hpl:(backTo pos (starEach es X.env)).any (·.1)=false:=by rfl):
  PE X (.Call (.Name x p) (e::es) [] pos) (Q7 sp [] E0 t):=by
 obtain⟨f,fd,F,b,kp,m⟩:=G.ex
 exact KM F (hr.mono hj) hg m kp b .nil BF ha hdb he hpl
end
noncomputable def Def (K:PySem.W.Frag)(mg:Str->Option Value)(x:Str)(st:Stmt)(ps:List Str):Prop:=∃ f fd,Fun K x x st f fd/\JF K fd ps []/\mg x=some (.ref f)
theorem Qq {P:Program}{w:World}{K:PySem.W.Frag}{mg:Str->Option Value}{base:Heap}{x:Str}{st:Stmt}{N ps:List Str}{k:Nat}{sp:Sp}(D:Def K mg x st ps)(S:FnScope N ps (Xk st))(len:∀vs H Q E,sp vs H Q E->vs.length=ps.length)
  (hbody:∀(f:Addr) (cdv:Value) (A:Around) (outer:List Env) (s:Shared) (H:Hp) (vs:List V) (Q:VK) (E:XK),Room k (A.deeper (envOfC x (Xk st) s.heap.objs.size f cdv))->sp vs H Q E->
   ∃t,PSs (V7 CX0 P w K mg base N x (Xk st) f cdv A outer s H E).nox (XY st) t/\t {nx:=λ_ H'=>Q .non H',rt:=Q} (QB N vs) H):Fn P w K mg base (k+1) x ps sp:=by
 obtain⟨f,fd,F,b,m⟩:=D
 exact⟨f,fd,F.ok S len (hbody f),b,F.kp,m⟩
theorem DV {a d c:Nat}(h:d<=8)(hu:a+8<c):a+d<c:=by omega
theorem XA {H:Hp}{p:Addr}(h:H p=none)(o:HO):Xn H (upd H p o):=λb u q=>by rw[Xr (Xu q h)];exact q
theorem Xn.own {H H2:Hp}{p:Addr}(s:Xn H H2)(h:H p=none)(o:HO):Xn H (upd H2 p o):=λb u q=>by rw[Xr (Xu q h)];exact s b u q
theorem Xn.new {H H2:Hp}{p:Addr}(s:Xn H H2)(h:H2 p=none)(o:HO):Xn H (upd H2 p o):=s.trans (XA h o)
theorem Xn.seqT {K:PySem.W.Frag}{H H':Hp}{a:Addr}{xs:List V}(e:Xn H H')(h:SqT K H a xs):SqT K H' a xs:=by
 rcases h with(h | ⟨o,h⟩) |h
 ·exact .inl (.inl (e _ _ h))
 ·exact .inl (.inr ⟨o,e _ _ h⟩)
 ·exact .inr h
theorem hu8 {A:Around}{k:Nat}(hr:Room k A):A.units+8<cLine:=Nat.lt_of_le_of_lt (Nat.add_le_add_left (by decide:8<=64) _) hr.units
noncomputable abbrev Enc (α:Type):=PySem.W.Frag->Hp->V->α->Prop
noncomputable def Xg:Enc Int:=λ_ _ v i=>v= .int i
noncomputable def rL {α:Type}(r:Enc α):Enc (List α):=λK H v as=>∃ a xs,v= .ref a/\SqL K H a xs/\Paired (r K H) xs as
noncomputable def rT2 {α β:Type}(r:Enc α)(q:Enc β):Enc (α×β):=λK H v p=>∃ a x y,v= .ref a/\SqT K H a [x,y]/\r K H x p.1/\q K H y p.2
theorem Paired.getL {α β:Type}{F:α->β->Prop}:∀{l:List α}{m:List β}{i:Nat}{a:α},Paired F l m->l[i]?=some a->∃b,m[i]?=some b/\F a b
 |_,_,_,_, .nil,e=>by simp at e
 |_,_,0,_, .cons r _,e=>by simp at e;subst e;exact⟨_,rfl,r⟩
 |_,_,i+1,a, .cons _ t,e=>by
  obtain⟨b,h1,h2⟩:=Paired.getL (i:=i) (a:=a) t (by simpa using e)
  exact⟨b,by simpa using h1,h2⟩
theorem Paired.getR {α β:Type}{F:α->β->Prop}:∀{l:List α}{m:List β}{i:Nat}{b:β},Paired F l m->m[i]?=some b->∃a,l[i]?=some a/\F a b
 |_,_,_,_, .nil,e=>by simp at e
 |_,_,0,_, .cons r _,e=>by simp at e;subst e;exact⟨_,rfl,r⟩
 |_,_,i+1,b, .cons _ t,e=>by
  obtain⟨a,h1,h2⟩:=Paired.getR (i:=i) (b:=b) t (by simpa using e)
  exact⟨a,by simpa using h1,h2⟩
theorem Paired.len {α β:Type}{F:α->β->Prop}{l:List α}{m:List β}(h:Paired F l m):l.length=m.length:=Paired.length h
theorem Paired.app {α β:Type}{F:α->β->Prop}:∀{l l':List α}{m m':List β},Paired F l m->Paired F l' m'->Paired F (l++l') (m++m'):=λp h=>by
 induction p with
 |nil=>exact h
 |cons r _ ih=>exact .cons r ih
theorem Vb (ns:List Int):∀{K:PySem.W.Frag}{H:Hp},Paired (Xg K H) (ns.map V.int) ns:=by
 intro K H
 induction ns with
 |nil=>exact .nil
 |cons n r ih=>exact .cons rfl ih
structure EqOk {α:Type}[DecidableEq α](r:Enc α)(d:Nat):Prop where
 uniq:∀{X:Cx}{pins:List (Addr×Obj)}{σ:St}{H:Hp}{s:Shared}{x:V}{a b:α},Inv X pins σ H s->r X.K H x a->r X.K H x b->a=b
 eq:∀{X:Cx}{pins:List (Addr×Obj)}{σ:St}{H:Hp}{s:Shared}{x y:V}{v u:Value}{a b:α}{A:Around},Inv X pins σ H s->XV x v->XV y u->r X.K H x a->r X.K H y b->A.units+d<cLine->SeqAt.EqAt A s v u (decide (a=b))
 rc:∀{X:Cx}{pins:List (Addr×Obj)}{σ:St}{H:Hp}{s:Shared}{x y:V}{v u:Value}{a b:α}{A:Around},Inv X pins σ H s->XV x v->XV y u->r X.K H x a->r X.K H y b->A.units+d<cLine->SeqAt.RcAt A s v u (decide (a=b))
 ne:∀{X:Cx}{pins:List (Addr×Obj)}{σ:St}{H:Hp}{s:Shared}{x y:V}{v u:Value}{a b:α}{A:Around},Inv X pins σ H s->XV x v->XV y u->r X.K H x a->r X.K H y b->A.units+d<cLine->SeqAt.RcNeAt A s v u (!decide (a=b))
 keep:∀{K:PySem.W.Frag}{H H':Hp}{x:V}{a:α},Xn H H'->r K H x a->r K H' x a
theorem EqOk.up {α:Type}[DecidableEq α]{r:Enc α}{d e:Nat}(E:EqOk r d)(h:d<=e):EqOk r e:=
 ⟨E.uniq,λI rx ry h1 h2 hu=>E.eq I rx ry h1 h2 (by omega),λI rx ry h1 h2 hu=>E.rc I rx ry h1 h2 (by omega),λI rx ry h1 h2 hu=>E.ne I rx ry h1 h2 (by omega),E.keep⟩
theorem Yr (A:Around):A.in1.units=A.units+1:=rfl
theorem Ga {a b:Int}:(a==b)=decide (a=b):=by rw[Bool.eq_iff_iff];simp
theorem eq_int:EqOk Xg 0 where
 uniq:=λ_ h1 h2=>by
  have h1':_=V.int _:=h1
  have h2':_=V.int _:=h2
  rw[h1'] at h2';injection h2'
 eq:=fun {X pins σ H s x y v u a b A} I rx ry h1 h2 _=>by
  have h1':x=V.int a:=h1
  have h2':y=V.int b:=h2
  subst h1' h2'
  obtain⟨t,rfl⟩:=rx
  obtain⟨t',rfl⟩:=ry
  rw[←Ga];exact SeqAt.EqAt.int_int a t b t'
 rc:=fun {X pins σ H s x y v u a b A} I rx ry h1 h2 _=>by
  have h1':x=V.int a:=h1
  have h2':y=V.int b:=h2
  subst h1' h2'
  obtain⟨t,rfl⟩:=rx
  obtain⟨t',rfl⟩:=ry
  rw[←Ga];exact SeqAt.RcAt.int_int a t b t'
 ne:=fun {X pins σ H s x y v u a b A} I rx ry h1 h2 _=>by
  have h1':x=V.int a:=h1
  have h2':y=V.int b:=h2
  subst h1' h2'
  obtain⟨t,rfl⟩:=rx
  obtain⟨t',rfl⟩:=ry
  rw[←Ga];exact SeqAt.RcNeAt.int_int a t b t'
 keep:=λ_ h=>h
theorem F2 {α:Type}[DecidableEq α]{as bs:List α}(h:as.length=bs.length):(List.range as.length).all (λj=>decide (as[j]?=bs[j]?))=decide (as=bs):=by
 rw[Bool.eq_iff_iff]
 simp only[List.all_eq_true,List.mem_range,decide_eq_true_eq]
 constructor
 ·intro hh
  apply List.ext_getElem?
  intro i
  by_cases hi:i<as.length
  ·exact hh i hi
  ·rw[List.getElem?_eq_none (by omega),List.getElem?_eq_none (by omega)]
 ·rintro rfl;intros;rfl
theorem Paired.uniq {α β:Type}{F:α->β->Prop}(hu:∀a b c,F a b->F a c->b=c):∀{l:List α}{m m':List β},Paired F l m->Paired F l m'->m=m':=fun {l m m'} p=>by
 induction p generalizing m' with
 |nil=>intro q;cases q;rfl
 |cons r _ ih=>intro q;cases q with |cons r' t'=>rw[hu _ _ _ r r',ih t']
theorem Paired.imp2 {α β:Type}{F G:α->β->Prop}(h:∀a b,F a b->G a b):∀{l:List α}{m:List β},Paired F l m->Paired G l m:=λp=>by
 induction p with
 |nil=>exact .nil
 |cons r _ ih=>exact .cons (h _ _ r) ih
section
variable {α:Type}[DecidableEq α]{r:Enc α}{d:Nat}
end
section
variable {α β:Type}[DecidableEq α][DecidableEq β]{r:Enc α}{q:Enc β}{d:Nat}
theorem VF {a1 a2:α}{b1 b2:β}:(decide (a1=a2)&&decide (b1=b2))=decide ((a1,b1)=(a2,b2)):=by
 rw[Bool.eq_iff_iff];simp
theorem Dq (E:EqOk r d)(F:EqOk q d):EqOk (rT2 r q) (d+1):=by
 have un:∀{X:Cx}{pins:List (Addr×Obj)}{σ:St}{H:Hp}{s:Shared}{x:V}{a b:α×β},Inv X pins σ H s->rT2 r q X.K H x a->rT2 r q X.K H x b->a=b:=by
  rintro X pins σ H s x ⟨a1,a2⟩ ⟨b1,b2⟩ I h1 h2
  obtain⟨a,x1,x2,rfl,q1,p1,p2⟩:=h1
  obtain⟨b,y1,y2,e,q2,p3,p4⟩:=h2
  cases e
  cases I.tuple_inj q1 q2
  rw[show a1=b1 from E.uniq I p1 p3,show a2=b2 from F.uniq I p2 p4]
 have its:∀{X:Cx}{pins:List (Addr×Obj)}{σ:St}{H:Hp}{s:Shared}{x1 x2 y1 y2:V}{u1 u2 w1 w2:Value}{a b:α×β}{A:Around},Inv X pins σ H s->XV x1 u1->XV x2 u2->XV y1 w1->XV y2 w2->
   r X.K H x1 a.1->q X.K H x2 a.2->r X.K H y1 b.1->q X.K H y2 b.2->A.units+(d+1)<cLine->
   ∀j (h1:j< [u1,u2].toArray.size) (h2:j< [w1,w2].toArray.size),SeqAt.EqAt A.in1 s [u1,u2].toArray[j] [w1,w2].toArray[j] ((λj=>if j=0 then decide (a.1=b.1) else decide (a.2=b.2)) j):=by
  intro X pins σ H s x1 x2 y1 y2 u1 u2 w1 w2 a b A I e1 e2 e3 e4 p1 p2 p3 p4 hu j h1 h2
  have hj:j=0∨j=1:=by
   have h1':j<2:=h1
   omega
  rcases hj with rfl |rfl
  ·exact E.eq (A:=A.in1) I e1 e3 p1 p3 (by rw[Yr];omega)
  ·exact F.eq (A:=A.in1) I e2 e4 p2 p4 (by rw[Yr];omega)
 have rc:∀{X:Cx}{pins:List (Addr×Obj)}{σ:St}{H:Hp}{s:Shared}{x y:V}{v u:Value}{a b:α×β}{A:Around},Inv X pins σ H s->XV x v->XV y u->rT2 r q X.K H x a->rT2 r q X.K H y b->A.units+(d+1)<cLine->SeqAt.RcAt A s v u (decide (a=b)):=by
  rintro X pins σ H s x y v u ⟨a1,a2⟩ ⟨b1,b2⟩ A I rx ry h1 h2 hu
  obtain⟨a,x1,x2,rfl,q1,p1,p2⟩:=h1
  obtain⟨b,y1,y2,rfl,q2,p3,p4⟩:=h2
  cases rx;cases ry
  obtain⟨i1,r1,l1,_⟩:=I.tuple q1
  obtain⟨i2,r2,l2,_⟩:=I.tuple q2
  obtain⟨u1,u2,rfl,e1,e2⟩:=XJ.two r1
  obtain⟨w1,w2,rfl,e3,e4⟩:=XJ.two r2
  have:=SeqAt.RcAt.tuples (A:=A) l1 l2 (by omega) (its (a:=(a1,a2)) (b:=(b1,b2)) I e1 e2 e3 e4 p1 p2 p3 p4 hu)
  rw[←VF]
  simpa[List.range_succ] using this
 refine⟨un,?_,rc,?_,?_⟩
 ·intro X pins σ H s x y v u as bs A I rx ry h1 h2 hu
  obtain⟨a,x1,x2,rfl,q1,p1,p2⟩:=id h1
  obtain⟨b,y1,y2,rfl,q2,p3,p4⟩:=id h2
  have R:=rc (A:=A) I rx ry h1 h2 hu
  cases rx;cases ry
  by_cases e:a=b
  ·subst e
   rw[decide_eq_true (un I h1 h2)]
   exact SeqAt.EqAt.same _
  ·exact SeqAt.EqAt.of_refs e R
 ·rintro X pins σ H s x y v u ⟨a1,a2⟩ ⟨b1,b2⟩ A I rx ry h1 h2 hu
  obtain⟨a,x1,x2,rfl,q1,p1,p2⟩:=h1
  obtain⟨b,y1,y2,rfl,q2,p3,p4⟩:=h2
  cases rx;cases ry
  obtain⟨i1,r1,l1,_⟩:=I.tuple q1
  obtain⟨i2,r2,l2,_⟩:=I.tuple q2
  obtain⟨u1,u2,rfl,e1,e2⟩:=XJ.two r1
  obtain⟨w1,w2,rfl,e3,e4⟩:=XJ.two r2
  have:=SeqAt.RcNeAt.tuples (A:=A) l1 l2 (by omega) (its (a:=(a1,a2)) (b:=(b1,b2)) I e1 e2 e3 e4 p1 p2 p3 p4 hu)
  rw[←VF]
  simpa[List.range_succ] using this
 ·intro K H H' x as e h
  obtain⟨a,x1,x2,rfl,q1,p1,p2⟩:=h
  exact⟨a,x1,x2,rfl,e.seqT q1,E.keep e p1,F.keep e p2⟩
end
section
variable {X:Cx}{α:Type}[DecidableEq α]{r:Enc α}{d:Nat}
theorem X7:Y9 X (.builtin "isinstance") (λxs H Q=>∃ x n t b,xs=[x, .ty n]/\TyOf X.K H x t/\PySem.W.kitOne X.K t (.type n)=some b/\Q (.bl b) H):=by
 intro pins s σ H xs us Q I r h
 obtain⟨x,n,t,b,rfl,ty,e,q⟩:=h
 obtain⟨u,v,rfl,ru,rv⟩:=XJ.two r
 cases(show v=Value.type n from rv)
 exact US I ru ty e λtk=>⟨.bl b,H,I.tok tk,rfl,q⟩
theorem VJ:OpR X (binaryOp .FloorDiv) (rI (λ_ j=>0<j/\j.natAbs.log2<9000) λi j=>.int (i/j)):=opI λi j _ _ _ _ _ hc q=>by
 refine floordiv_int (by omega) ?_ (.inl (PyProof.noPylong_of_log2 hc.2))
 rw[Int.fdiv_eq_ediv_of_nonneg i (by omega)]
 exact q
end
end L2
namespace PySem
open Sem (wp)
section
variable {prog:Program}{w:World}{A:Around}{E:Value->Shared->Prop}{s:Shared}
end
end PySem
namespace L2
open PySem PySem.Spec PyProof.Rows
section
variable {X:Cx}{e:Expr}{te:TE}
end
section
variable {X:Cx}{pins:List (Addr×Obj)}{σ:St}{H:Hp}{s:Shared}{h':Heap}
end
section
variable {X:Cx}{elts:List Expr}{k:Nat}{pos0:Pos}
end
section
variable {X:Cx}
end
section
variable {α:Type}[DecidableEq α]{r:Enc α}{d:Nat}
theorem Dw {as bs:List α}:((List.range (min as.length bs.length)).all (λj=>decide (as[j]?=bs[j]?))&&as.length==bs.length)=decide (as=bs):=by
 by_cases hl:as.length=bs.length
 ·rw[show min as.length bs.length=as.length by omega,F2 hl]
  simp[hl]
 ·rw[decide_eq_false (λe=>hl (congrArg List.length e))]
  simp[hl]
end
section
variable {X:Cx}{o e f:Expr}{td ty tx:TE}{apos cpos:Pos}
end
section
variable {X:Cx}{elt tg iter:Expr}{ifs:List Expr}{scope sc:Scope}{pos:Pos}{n:Nat}{tns:List Str}{caps:List (Nat×Str)}{wi:TI}{g:TG}{tt:TT}{te:TE}
end
variable {X:Cx}
theorem Zm {l:List Expr}{p:Pos}{es:List Expr}{env:Env}:starEach (.List l p::es) env=(false,eval (.List l p) env)::starEach es env:=rfl
variable {X:Cx}{o e:Expr}{es:List Expr}{to:TE}{t:TA}{name:Str}{apos cpos:Pos}{T id:String}{r:V->List V->Hp->VK->Prop}
theorem Cy (K:PySem.W.Frag)(hK:X.K=K)(pa:PlainAttrs T)(slot:Slot T name id)(hty:typeOf (.builtin id)=pure (.type "method_descriptor"))(hm:MtR X id r)(ho:PE X o to)(ha:PA X (e::es) t)
  (hbase:attributeBase o name X.env (eval o X.env)=eval o X.env:=by rfl)
  (hfew:((backTo cpos (starEach (e::es) X.env)).all (λx=>!x.1)&&(backToKw cpos (keywordEach [] X.env)).all (λx=>x.1.isSome)
   &&decide ((e::es).length+([]:List Keyword).length+(if([]:List Keyword).isEmpty then 0 else 1)<30))=true:=by rfl)
  (hline:(apos.endLine==cpos.line)=true:=by rfl)(hs:starEach (e::es) X.env=(false,eval e X.env)::starEach es X.env:=by rfl)(hplain:(backTo cpos (starEach es X.env)).any (·.1)=false:=by rfl):
  PE X (.Call (.Attribute o name apos) (e::es) [] cpos) (tBM K T r to t):=by
 subst hK
 exact ZS pa slot hty hm ho ha hbase hfew hline hs hplain
end L2
namespace PySem
open PySem.Spec
namespace SeqAt
open MeetsSeq
end SeqAt
end PySem
namespace L2
open PySem PySem.Spec PyProof.Rows
section
variable {X:Cx}
end
section
variable {X:Cx}
end
section
variable {X:Cx}{α:Type}[DecidableEq α]{r:Enc α}{d:Nat}
end
section
variable {X:Cx}
end
section
variable {X:Cx}
variable {T:String}{name:Str}{id:String}{r:V->List V->Hp->VK->Prop}{o e:Expr}{es:List Expr}{to:TE}{t:TA}{apos cpos:Pos}
theorem V1 {K:PySem.W.Frag}(hK:X.K=K)(pa:PlainAttrs T)(slot:Slot T name id)(hty:typeOf (.builtin id)=pure (.type "method_descriptor"))(hm:MtR X id r)(ho:PE X o to)(ha:PA X (e::es) t)
  (hbase:attributeBase o name X.env (eval o X.env)=eval o X.env:=by rfl)
  (hfew:((backTo cpos (starEach (e::es) X.env)).all (λx=>!x.1)&&(backToKw cpos (keywordEach [] X.env)).all (λx=>x.1.isSome)
   &&decide ((e::es).length+([]:List Keyword).length+(if([]:List Keyword).isEmpty then 0 else 1)<30))=true:=by rfl)
  (hline:(apos.endLine==cpos.line)=true:=by rfl)(hs:starEach (e::es) X.env=(false,eval e X.env)::starEach es X.env:=by rfl)(hplain:(backTo cpos (starEach es X.env)).any (·.1)=false:=by rfl):
  PE X (.Call (.Attribute o name apos) (e::es) [] cpos) (tBM K T r to t):=Cy K hK pa slot hty hm ho ha hbase hfew hline hs hplain
end
section
variable {X:Cx}{elt tg iter:Expr}{ifs:List Expr}{scope:Scope}{pos:Pos}{wi:TI}{g:TG}{tt:TT}{te:TE}
theorem VZ {sc:Scope}{N0:List Str}{tns:List Str}{caps:List (Nat×Str)}(hc:X.calm=true)(hi:PI X tg iter wi)(hG:Q6 tns.length g)
  (hb:∀cl C s H ex E,PG (X.comp (tns++caps.map (·.2)) scope cl C s H ex E) tg g/\PTs (X.comp (tns++caps.map (·.2)) scope cl C s H ex E) ifs tt/\PE (X.comp (tns++caps.map (·.2)) scope cl C s H ex E) elt te)
  (hsc:X.env.scope=sc:=by rfl)(hN0:X.N=N0:=by rfl)(ok:QP sc scope N0 tns caps=true:=by decide+kernel)
  (hs:∀x,foldedSetIterable iter X.env x=pure x:=by intro _;rfl):
  PE X (.ListComp elt [⟨tg,iter,ifs,0⟩] scope pos) (Um tns.length caps wi g tt te):=FX sc N0 tns caps hc hi hG hb hsc hN0 ok hs
end
section
variable {X:Cx}{tg l:Expr}{tl:TE}{p pos:Pos}{K:PySem.W.Frag}
theorem QW (h:X.K=K)(hl:PE X l tl):PI X tg l (F3 K tl):=by subst h;exact Dj hl
theorem Dt (h:X.K=K)(hl:PE X l tl):PI X tg l (Bx K tl):=by subst h;exact C4 hl
end
section
variable {X:Cx}
theorem FQ (K:PySem.W.Frag)(h:X.K=K):SlR X (Bv K):=by subst h;exact Cg
end
inductive Pay where
 |non |int (i:Int) |tag (t:Str) (xs:List Int)
 deriving DecidableEq
structure Exc where
 cls:Str
 pay:Pay
inductive Rs (α:Type) where
 |bad |err (x:Exc) |ok (a:α)
noncomputable def Rs.bind {α β:Type}:Rs α->(α->Rs β)->Rs β
 | .bad,_=>.bad
 | .err x,_=>.err x
 | .ok a,f=>f a
theorem Rs.ok_bind {α β:Type}(a:α)(f:α->Rs β):(Rs.ok a).bind f=f a:=rfl
noncomputable def chk {α:Type}(c:Prop)[Decidable c](m:Rs α):Rs α:=if c then m else .bad
theorem Xl {α:Type}{c:Prop}[Decidable c]{m:Rs α}(h:c):chk c m=m:=if_pos h
noncomputable abbrev Xs:=Addr×HO
noncomputable def CG:HO->Bool
 | .lst _=>true
 | .dK _=>true
 | .dT _=>true
 |_=>false
noncomputable def fl (OO:List (List Xs)):List Addr:=OO.flatten.map (·.1)
open Classical in
noncomputable def hid (H:Hp)(OO:List (List Xs)):Hp:=λb=>if b∈fl OO then none else H b
structure W (OO:List (List Xs))(H:Hp):Prop where
 tr:∀c∈OO.flatten,H c.1=some c.2
 nd:(fl OO).Nodup
 mu:∀c∈OO.flatten,CG c.2=true
theorem XS {H:Hp}{OO}{b:Addr}{o:HO}(h:hid H OO b=some o):H b=some o/\b∉fl OO:=by
 unfold hid at h
 split at h
 ·cases h
 ·exact⟨h,by assumption⟩
theorem YS {H:Hp}{OO}{b:Addr}{o:HO}(h:H b=some o)(n:b∉fl OO):hid H OO b=some o:=by
 unfold hid;rw[if_neg n];exact h
theorem Xv {H:Hp}{OO}:Xn (hid H OO) H:=λb o h=>(XS h).1
theorem Xi {H H':Hp}{OO}(s:Xn H H'):Xn (hid H OO) (hid H' OO):=λb o h=>YS (s _ _ (XS h).1) (XS h).2
theorem QX {H H':Hp}{OO OO'}(s:Xn H H')(h:∀b,b∈fl OO'->b∈fl OO):Xn (hid H OO) (hid H' OO'):=λb o q=>YS (s _ _ (XS q).1) λz=>(XS q).2 (h b z)
theorem XZ {C:List Xs}{OO}:fl (C::OO)=C.map (·.1)++fl OO:=by simp[fl]
theorem KH {OO}:fl ([]::OO)=fl OO:=by simp[fl]
theorem Zf {H:Hp}{OO}:hid H ([]::OO)=hid H OO:=by unfold hid;rw[KH]
theorem W.keep {OO}{H H':Hp}(w:W OO H)(s:Xn H H'):W OO H':=⟨λc hc=>s _ _ (w.tr c hc),w.nd,w.mu⟩
theorem W.of {OO OO':List (List Xs)}{H:Hp}(w:W OO H)(h:OO'.flatten.Perm OO.flatten):W OO' H:=
 ⟨λc hc=>w.tr c (h.mem_iff.mp hc),(h.map _).nodup_iff.mpr w.nd,λc hc=>w.mu c (h.mem_iff.mp hc)⟩
theorem W.sub {OO OO':List (List Xs)}{H:Hp}(w:W OO H)(h:OO'.flatten.Sublist OO.flatten):W OO' H:=
 ⟨λc hc=>w.tr c (h.mem hc),(h.map _).nodup w.nd,λc hc=>w.mu c (h.mem hc)⟩
theorem W.tail {C OO}{H:Hp}(w:W (C::OO) H):W OO H:=w.sub (by simp)
theorem W.nil {OO}{H:Hp}(w:W OO H):W ([]::OO) H:=w.of (by simp)
theorem W.cell {C OO}{H:Hp}(w:W (C::OO) H):∀c∈C,H c.1=some c.2:=λc hc=>w.tr c (by simp[hc])
theorem QQ {OO:List (List Xs)}{c:Xs}(h:c∈OO.flatten):c.1∈fl OO:=List.mem_map.mpr ⟨c,h,rfl⟩
theorem KK {OO:List (List Xs)}{b:Addr}(h:b∈fl OO):∃o,(b,o)∈OO.flatten:=by
 obtain⟨⟨a,o⟩,hc,rfl⟩:=List.mem_map.mp h
 exact⟨o,hc⟩
theorem W.fresh {OO}{H:Hp}(w:W OO H){p:Addr}(h:H p=none):p∉fl OO:=λz=>by
 obtain⟨o,ho⟩:=KK z
 have:=w.tr _ ho
 rw[h] at this;cases this
theorem W.new {OO}{H:Hp}(w:W OO H){p:Addr}(h:H p=none){o:HO}(m:CG o=true):W ([(p,o)]::OO) (upd H p o):=by
 have hf:=w.fresh h
 refine⟨λc hc=>?_,?_,λc hc=>?_⟩
 ·simp only[List.flatten_cons,List.cons_append,List.nil_append,List.mem_cons] at hc
  rcases hc with rfl |hc
  ·exact XU
  ·rw[Xr (λe=>hf (by rw[←e];exact QQ hc))];exact w.tr c hc
 ·rw[XZ];simpa using ⟨hf,w.nd⟩
 ·simp only[List.flatten_cons,List.cons_append,List.nil_append,List.mem_cons] at hc
  rcases hc with rfl |hc
  ·exact m
  ·exact w.mu c hc
theorem Vw {OO}{H:Hp}{p:Addr}(h:H p=none){o:HO}:Xn (hid H OO) (hid (upd H p o) ([(p,o)]::OO)):=λb u q=>by
 obtain⟨q1,q2⟩:=XS q
 have hb:b≠p:=Xu q1 h
 refine YS (by rw[Xr hb];exact q1) ?_
 rw[XZ];simpa using ⟨hb,q2⟩
theorem Q9 {OO}{H:Hp}(w:W OO H){p:Addr}(h:H p=none){o:HO}:hid (upd H p o) OO p=some o:=YS XU (w.fresh h)
class MonoE {α:Type}(r:Enc α):Prop where
 mono:∀{K:PySem.W.Frag}{H H':Hp}{v:V}{a:α},Xn H H'->r K H v a->r K H' v a
noncomputable def BU:HO->Bool
 | .tup _=>true
 | .frz _ _=>true
 |_=>false
noncomputable def ZT (H H':Hp):Prop:=∀ b o,H b=some o->BU o=true->H' b=some o
theorem Xn.i {H H':Hp}(s:Xn H H'):ZT H H':=λb o h _=>s b o h
theorem W.i {OO}{H:Hp}(w:W OO H):ZT H (hid H OO):=λb o h i=>YS h λz=>by
 obtain⟨u,hu⟩:=KK z
 have h1:=w.tr _ hu
 have h2:=w.mu _ hu
 rw[h] at h1
 have e:o=u:=Option.some.inj h1
 subst e
 revert i h2;cases o<;> simp[BU,CG]
theorem ZT.trans {H H1 H2:Hp}(a:ZT H H1)(b:ZT H1 H2):ZT H H2:=λc o h i=>b c o (a c o h i) i
class FlatE {α:Type}(r:Enc α):Prop where
 flat:∀{K:PySem.W.Frag}{H H':Hp}{v:V}{a:α},ZT H H'->r K H v a->r K H' v a
instance {α:Type}{r:Enc α}[f:FlatE r]:MonoE r:=⟨λs h=>f.flat s.i h⟩
theorem ZT.seqT {K:PySem.W.Frag}{H H':Hp}{a:Addr}{xs:List V}(e:ZT H H')(h:SqT K H a xs):SqT K H' a xs:=by
 rcases h with(h | ⟨o,h⟩) |h
 ·exact .inl (.inl (e _ _ h rfl))
 ·exact .inl (.inr ⟨o,e _ _ h rfl⟩)
 ·exact .inr h
noncomputable def Xx:Enc Bool:=λ_ _ v b=>v= .bl b
noncomputable def Xm:Enc Str:=λ_ _ v x=>v= .str x
noncomputable def rV {α:Type}(r:Enc α):Enc (List α):=λK H v as=>∃ a xs,v= .ref a/\H a=some (.lst xs)/\Paired (r K H) xs as
noncomputable def rPL {α:Type}(r:Enc α):Enc (List α):=λK H v as=>∃ a xs,v= .ref a/\H a=some (.tup xs)/\Paired (r K H) xs as
noncomputable def rP2 {α β:Type}(r:Enc α)(q:Enc β):Enc (α×β):=λK H v p=>∃ a x y,v= .ref a/\H a=some (.tup [x,y])/\r K H x p.1/\q K H y p.2
noncomputable def rP3 {α β γ:Type}(r:Enc α)(q:Enc β)(t:Enc γ):Enc (α×β×γ):=λK H v p=>∃ a x y z,v= .ref a/\H a=some (.tup [x,y,z])/\r K H x p.1/\q K H y p.2.1/\t K H z p.2.2
instance {α:Type}{r:Enc α}[m:MonoE r]:MonoE (rV r):=⟨λs r9=>by obtain⟨a,xs,e,q,p⟩:=r9;exact⟨a,xs,e,s _ _ q,Paired.imp2 (λ_ _ z=>m.mono s z) p⟩⟩
instance {α:Type}{r:Enc α}[m:MonoE r]:MonoE (rPL r):=⟨λs r9=>by obtain⟨a,xs,e,q,p⟩:=r9;exact⟨a,xs,e,s _ _ q,Paired.imp2 (λ_ _ z=>m.mono s z) p⟩⟩
instance {α:Type}{r:Enc α}[m:FlatE r]:FlatE (rPL r):=⟨λs r9=>by obtain⟨a,xs,e,q,p⟩:=r9;exact⟨a,xs,e,s _ _ q rfl,Paired.imp2 (λ_ _ z=>m.flat s z) p⟩⟩
instance {α β:Type}{r:Enc α}{q:Enc β}[m:MonoE r][n:MonoE q]:MonoE (rP2 r q):=⟨λs r9=>by obtain⟨a,x,y,e,h,p1,p2⟩:=r9;exact⟨a,x,y,e,s _ _ h,m.mono s p1,n.mono s p2⟩⟩
instance {α β:Type}{r:Enc α}{q:Enc β}[m:FlatE r][n:FlatE q]:FlatE (rP2 r q):=⟨λs r9=>by obtain⟨a,x,y,e,h,p1,p2⟩:=r9;exact⟨a,x,y,e,s _ _ h rfl,m.flat s p1,n.flat s p2⟩⟩
instance {α β γ:Type}{r:Enc α}{q:Enc β}{t:Enc γ}[m:MonoE r][n:MonoE q][k:MonoE t]:MonoE (rP3 r q t):=⟨λs r9=>by obtain⟨a,x,y,z,e,h,p1,p2,p3⟩:=r9;exact⟨a,x,y,z,e,s _ _ h,m.mono s p1,n.mono s p2,k.mono s p3⟩⟩
instance {α β γ:Type}{r:Enc α}{q:Enc β}{t:Enc γ}[m:FlatE r][n:FlatE q][k:FlatE t]:FlatE (rP3 r q t):=⟨λs r9=>by obtain⟨a,x,y,z,e,h,p1,p2,p3⟩:=r9;exact⟨a,x,y,z,e,s _ _ h rfl,m.flat s p1,n.flat s p2,k.flat s p3⟩⟩
instance:FlatE Xg:=⟨λ_ h=>h⟩
instance:FlatE Xx:=⟨λ_ h=>h⟩
instance:FlatE Xm:=⟨λ_ h=>h⟩
instance {α:Type}{r:Enc α}[m:MonoE r]:MonoE (rL r):=⟨λs r9=>by obtain⟨a,xs,e,q,p⟩:=r9;exact⟨a,xs,e,s.seq q,Paired.imp2 (λ_ _ z=>m.mono s z) p⟩⟩
noncomputable abbrev OE (α:Type):=PySem.W.Frag->Hp->V->α->List Xs->Prop
inductive P3 {α β γ:Type}(F:α->β->γ->Prop):List α->List β->List γ->Prop where
 |nil:P3 F [] [] []
 |cons {a b c l m n}:F a b c->P3 F l m n->P3 F (a::l) (b::m) (c::n)
noncomputable def oF {α:Type}(r:Enc α):OE α:=λK h v a C=>C=[]/\r K h v a
noncomputable def oL {α:Type}(o:OE α):OE (List α):=λK h v as C=>∃ p xs Cs,v= .ref p/\P3 (o K h) xs as Cs/\C=(p, .lst xs)::Cs.flatten
noncomputable def oT2 {α β:Type}(o:OE α)(q:OE β):OE (α×β):=λK h v a C=>∃ p x y C1 C2,v= .ref p/\h p=some (.tup [x,y])/\o K h x a.1 C1/\q K h y a.2 C2/\C=C1++C2
section
variable {α β γ δ:Type}
theorem P3.imp {F G:α->β->γ->Prop}(h:∀a b c,F a b c->G a b c):∀{l m n},P3 F l m n->P3 G l m n:=λp=>by
 induction p with
 |nil=>exact .nil
 |cons r _ ih=>exact .cons (h _ _ _ r) ih
theorem P3.app {F:α->β->γ->Prop}:∀{l m n l' m' n'},P3 F l m n->P3 F l' m' n'->P3 F (l++l') (m++m') (n++n'):=λp h=>by
 induction p with
 |nil=>exact h
 |cons r _ ih=>exact .cons r ih
theorem P3.snoc {F:α->β->γ->Prop}{l m n a b c}(h:P3 F l m n)(r:F a b c):P3 F (l++[a]) (m++[b]) (n++[c]):=h.app (.cons r .nil)
theorem P3.len {F:α->β->γ->Prop}:∀{l m n},P3 F l m n->l.length=m.length/\n.length=m.length:=λp=>by
 induction p with
 |nil=>exact⟨rfl,rfl⟩
 |cons _ _ ih=>exact⟨congrArg Nat.succ ih.1,congrArg Nat.succ ih.2⟩
theorem P3.pair {F:α->β->γ->Prop}{G:α->β->Prop}:∀{l m n},P3 F l m n->(∀a b c,c∈n->F a b c->G a b)->Paired G l m:=λp h=>by
 induction p with
 |nil=>exact .nil
 |cons r _ ih=>exact .cons (h _ _ _ List.mem_cons_self r) (ih λa b c hc=>h a b c (List.mem_cons_of_mem _ hc))
theorem P3.get {F:α->β->γ->Prop}:∀{l m n}{i:Nat}{b:β},P3 F l m n->m[i]?=some b->∃a c,l[i]?=some a/\n[i]?=some c/\F a b c
 |_,_,_,_,_, .nil,e=>by simp at e
 |_,_,_,0,_, .cons r _,e=>by simp at e;subst e;exact⟨_,_,rfl,rfl,r⟩
 |_,_,_,i+1,b, .cons _ t,e=>by
  obtain⟨a,c,h1,h2,h3⟩:=P3.get (i:=i) (b:=b) t (by simpa using e)
  exact⟨a,c,by simpa using h1,by simpa using h2,h3⟩
theorem P3.set {F:α->β->γ->Prop}{a:α}{b:β}{c:γ}(r:F a b c):∀{l m n} (i:Nat),P3 F l m n->P3 F (l.set i a) (m.set i b) (n.set i c)
 |_,_,_,_, .nil=>.nil
 |_,_,_,0, .cons _ t=>.cons r t
 |_,_,_,i+1, .cons q t=>.cons q (P3.set r i t)
theorem P3.flat {F:α->β->Prop}:∀{l:List α}{m:List β}{n:List (List Xs)},P3 (λa b c=>c=[]/\F a b) l m n->Paired F l m/\n.flatten=[]:=λp=>by
 induction p with
 |nil=>exact⟨.nil,rfl⟩
 |cons r _ ih=>exact⟨.cons r.2 ih.1,by rw[List.flatten_cons,r.1,ih.2];rfl⟩
theorem P3.of {F:α->β->Prop}:∀{l:List α}{m:List β},Paired F l m->P3 (λa b (c:List Xs)=>c=[]/\F a b) l m (List.replicate m.length [])
 |_,_, .nil=>.nil
 |_,_, .cons r t=>.cons ⟨rfl,r⟩ (P3.of t)
theorem YH:∀n:Nat,(List.replicate n ([]:List Xs)).flatten=[]
 |0=>rfl
 |n+1=>by simp[List.replicate_succ,YH n]
end
class MonoO {α:Type}(o:OE α):Prop where
 mono:∀{K:PySem.W.Frag}{H H':Hp}{v:V}{a:α}{C:List Xs},Xn H H'->o K H v a C->o K H' v a C
class FlatO {α:Type}(o:OE α):Prop where
 flat:∀{K:PySem.W.Frag}{H H':Hp}{v:V}{a:α}{C:List Xs},ZT H H'->o K H v a C->o K H' v a C
class FrzC {α:Type}(o:OE α)(r:outParam (Enc α)):Prop where
 frz:∀{K:PySem.W.Frag}{H H':Hp}{v:V}{a:α}{C:List Xs},o K H v a C->Xn H H'->(∀c∈C,H' c.1=some c.2)->r K H' v a
instance {α:Type}{r:Enc α}[m:MonoE r]:MonoO (oF r):=⟨λs h=>⟨h.1,m.mono s h.2⟩⟩
instance {α:Type}{r:Enc α}[m:FlatE r]:FlatO (oF r):=⟨λs h=>⟨h.1,m.flat s h.2⟩⟩
instance {α:Type}{r:Enc α}[m:MonoE r]:FrzC (oF r) r:=⟨λh s _=>m.mono s h.2⟩
instance {α:Type}{o:OE α}[m:MonoO o]:MonoO (oL o):=⟨λs r9=>by obtain⟨p,xs,Cs,e,q,c⟩:=r9;exact⟨p,xs,Cs,e,q.imp λ_ _ _ z=>m.mono s z,c⟩⟩
instance {α:Type}{o:OE α}[m:FlatO o]:FlatO (oL o):=⟨λs r9=>by obtain⟨p,xs,Cs,e,q,c⟩:=r9;exact⟨p,xs,Cs,e,q.imp λ_ _ _ z=>m.flat s z,c⟩⟩
instance {α:Type}{o:OE α}{r:Enc α}[m:FrzC o r]:FrzC (oL o) (rV r):=⟨λ⟨p,xs,Cs,e,q,c⟩ s hc=>by
 subst c
 exact⟨p,xs,e,hc _ List.mem_cons_self,q.pair λa b c hm z=>m.frz z s λx hx=>hc x (List.mem_cons_of_mem _ (List.mem_flatten.mpr ⟨c,hm,hx⟩))⟩⟩
instance {α β:Type}{o:OE α}{q:OE β}[m:MonoO o][n:MonoO q]:MonoO (oT2 o q):=⟨λs r9=>by obtain⟨p,x,y,C1,C2,e,h,h1,h2,c⟩:=r9;exact⟨p,x,y,C1,C2,e,s _ _ h,m.mono s h1,n.mono s h2,c⟩⟩
instance {α β:Type}{o:OE α}{q:OE β}[m:FlatO o][n:FlatO q]:FlatO (oT2 o q):=⟨λs r9=>by obtain⟨p,x,y,C1,C2,e,h,h1,h2,c⟩:=r9;exact⟨p,x,y,C1,C2,e,s _ _ h rfl,m.flat s h1,n.flat s h2,c⟩⟩
instance {α β:Type}{o:OE α}{q:OE β}{r:Enc α}{t:Enc β}[m:FrzC o r][n:FrzC q t]:FrzC (oT2 o q) (rP2 r t):=⟨λ⟨p,x,y,C1,C2,e,h,h1,h2,c⟩ s hc=>by
 subst c
 exact⟨p,x,y,e,s _ _ h,m.frz h1 s λc hm=>hc c (by simp[hm]),n.frz h2 s λc hm=>hc c (by simp[hm])⟩⟩
structure SC where
 p:Hp->Prop
 mono:∀h h',Xn h h'->p h->p h'
noncomputable def SC.nil:SC:=⟨λ_=>True,λ_ _ _ _=>True.intro⟩
noncomputable def SC.and (S T:SC):SC:=⟨λh=>S.p h/\T.p h,λ_ _ s q=>⟨S.mono _ _ s q.1,T.mono _ _ s q.2⟩⟩
noncomputable def SC.one {α:Type}(K:PySem.W.Frag)(r:Enc α)[m:MonoE r](v:V)(a:α):SC:=⟨λh=>r K h v a,λ_ _ s q=>m.mono s q⟩
noncomputable def SC.oneO {α:Type}(K:PySem.W.Frag)(o:OE α)[m:MonoO o](v:V)(a:α)(C:List Xs):SC:=⟨λh=>o K h v a C,λ_ _ s q=>m.mono s q⟩
noncomputable abbrev SC.add {α:Type}(S:SC)(K:PySem.W.Frag)(r:Enc α)[m:MonoE r](v:V)(a:α):SC:=S.and (SC.one K r v a)
noncomputable abbrev SC.addO {α:Type}(S:SC)(K:PySem.W.Frag)(o:OE α)[m:MonoO o](v:V)(a:α)(C:List Xs):SC:=S.and (SC.oneO K o v a C)
theorem SC.l {S T:SC}{h:Hp}(q:(S.and T).p h):S.p h:=q.1
theorem SC.r {S T:SC}{h:Hp}(q:(S.and T).p h):T.p h:=q.2
theorem SC.i {S T:SC}{h:Hp}(q:S.p h)(p:T.p h):(S.and T).p h:=⟨q,p⟩
theorem SC.t {h:Hp}:SC.nil.p h:=True.intro
theorem SC.p.l {S T:SC}{h:Hp}(q:(S.and T).p h):S.p h:=q.1
theorem SC.p.r {S T:SC}{h:Hp}(q:(S.and T).p h):T.p h:=q.2
noncomputable def PZ {β:Type}(Er:Exc->Hp->Prop)(F:β->Hp->Prop)(H:Hp)(m:Rs β):Prop:=
 match m with
 | .bad=>False
 | .err x=>∀ H',Xn H H'->Er x H'
 | .ok b=>F b H
section
variable (K:PySem.W.Frag)(Er:Exc->Hp->Prop)(S:SC)(OO OO':List (List Xs))(σ:St)
noncomputable def FB {α:Type}(r:Enc α)(Q:VK)(a:α)(H:Hp):Prop:=∀ v H',Xn H H'->r K H' v a->Q v H'
noncomputable def FO {α:Type}(o:OE α)(Q:VK)(a:α)(H:Hp):Prop:=∀ v C H',Xn H H'->W (C::OO') H'->Xn (hid H OO) (hid H' (C::OO'))->o K (hid H' (C::OO')) v a C->Q v H'
noncomputable def FT (Q:Bool->Hp->Prop)(b:Bool)(H:Hp):Prop:=∀ H',Xn H H'->Q b H'
noncomputable def EvB {α:Type}(te:TE)(r:Enc α)(m:Rs α):Prop:=∀ H Q,W OO H->S.p (hid H OO)->PZ Er (FB K r Q) H m->te σ H Q
noncomputable def Ev {α:Type}(te:TE)(o:OE α)(m:Rs α):Prop:=∀ H Q,W OO H->S.p (hid H OO)->PZ Er (FO K OO OO' o Q) H m->te σ H Q
noncomputable def EvT (tt:TT)(m:Rs Bool):Prop:=∀ H Q,W OO H->S.p (hid H OO)->PZ Er (FT Q) H m->tt σ H Q
end
section
variable {K:PySem.W.Frag}{Er:Exc->Hp->Prop}{S:SC}{OO OO' OO2:List (List Xs)}{σ:St}{α β γ:Type}
theorem FB.tr {r:Enc α}{Q:VK}:∀a H H',Xn H H'->FB K r Q a H->FB K r Q a H':=λa H H' s h v H2 s2 q=>h v H2 (s.trans s2) q
theorem FO.tr {o:OE α}{Q:VK}:∀a H H',Xn H H'->FO K OO OO' o Q a H->FO K OO OO' o Q a H':=λa H H' s h v C H2 s2 w m q=>h v C H2 (s.trans s2) w ((Xi s).trans m) q
theorem FT.tr {Q:Bool->Hp->Prop}:∀b H H',Xn H H'->FT Q b H->FT Q b H':=λa H H' s h H2 s2=>h H2 (s.trans s2)
theorem EvB.run {te:TE}{r:Enc α}{m:Rs α}(he:EvB K Er S OO σ te r m){H:Hp}{Q:VK}(w:W OO H)(s:S.p (hid H OO)){f:α->Rs β}{F:β->Hp->Prop}(hF:∀b H H',Xn H H'->F b H->F b H')(P:PZ Er F H (m.bind f))
  (hk:∀a v H',Xn H H'->W OO H'->S.p (hid H' OO)->r K H' v a->PZ Er F H' (f a)->Q v H'):te σ H Q:=by
 refine he H Q w s ?_
 cases m with
 |bad=>exact P
 |err x=>exact P
 |ok a=>
  intro v H' s' hr
  refine hk a v H' s' (w.keep s') (S.mono _ _ (Xi s') s) hr ?_
  have P':PZ Er F H (f a):=P
  revert P'
  cases f a with
  |bad=>exact λz=>z
  |err x=>exact λz H2 s2=>z H2 (s'.trans s2)
  |ok b=>exact λz=>hF b H H' s' z
theorem Ev.run {te:TE}{o:OE α}{m:Rs α}(he:Ev K Er S OO OO' σ te o m){H:Hp}{Q:VK}(w:W OO H)(s:S.p (hid H OO)){f:α->Rs β}{F:β->Hp->Prop}(hF:∀b H H',Xn H H'->F b H->F b H')(P:PZ Er F H (m.bind f))
  (hk:∀a v C H',Xn H H'->W (C::OO') H'->Xn (hid H OO) (hid H' (C::OO'))->S.p (hid H' (C::OO'))->o K (hid H' (C::OO')) v a C->PZ Er F H' (f a)->Q v H'):te σ H Q:=by
 refine he H Q w s ?_
 cases m with
 |bad=>exact P
 |err x=>exact P
 |ok a=>
  intro v C H' s' w' m' ho
  refine hk a v C H' s' w' m' (S.mono _ _ m' s) ho ?_
  have P':PZ Er F H (f a):=P
  revert P'
  cases f a with
  |bad=>exact λz=>z
  |err x=>exact λz H2 s2=>z H2 (s'.trans s2)
  |ok b=>exact λz=>hF b H H' s' z
theorem EvT.run {tt:TT}{m:Rs Bool}(he:EvT Er S OO σ tt m){H:Hp}{Q:Bool->Hp->Prop}(w:W OO H)(s:S.p (hid H OO)){f:Bool->Rs β}{F:β->Hp->Prop}(hF:∀b H H',Xn H H'->F b H->F b H')(P:PZ Er F H (m.bind f))
  (hk:∀b H',Xn H H'->W OO H'->S.p (hid H' OO)->PZ Er F H' (f b)->Q b H'):tt σ H Q:=by
 refine he H Q w s ?_
 cases m with
 |bad=>exact P
 |err x=>exact P
 |ok a=>
  intro H' s'
  refine hk a H' s' (w.keep s') (S.mono _ _ (Xi s') s) ?_
  have P':PZ Er F H (f a):=P
  revert P'
  cases f a with
  |bad=>exact λz=>z
  |err x=>exact λz H2 s2=>z H2 (s'.trans s2)
  |ok b=>exact λz=>hF b H H' s' z
theorem Ev.toB {te:TE}{o:OE α}{r:Enc α}[z:FrzC o r]{m:Rs α}(he:Ev K Er S OO OO σ te o m):EvB K Er S OO σ te r m:=λH Q w s P=>by
 refine he H Q w s ?_
 cases m with
 |bad=>exact P
 |err x=>exact P
 |ok a=>exact λv C H' s' w' m' ho=>P v H' s' (z.frz ho Xv w'.cell)
theorem Ev.frz {te:TE}{o:OE α}{r:Enc α}[z:FrzC o r]{m:Rs α}(he:Ev K Er S OO OO' σ te o m):Ev K Er S OO OO' σ te (oF r) m:=λH Q w s P=>by
 refine he H Q w s ?_
 cases m with
 |bad=>exact P
 |err x=>exact P
 |ok a=>
  intro v C H' s' w' m' ho
  have hs:Xn (hid H' (C::OO')) (hid H' ([]::OO')):=QX (Xn.refl _) λb hb=>by rw[KH] at hb;rw[XZ];simp[hb]
  refine P v [] H' s' w'.tail.nil (m'.trans hs) ⟨rfl,z.frz ho hs λc hc=>YS (w'.cell c hc) ?_⟩
  rw[KH]
  have:=w'.nd
  rw[XZ] at this
  intro hb
  exact(List.nodup_append.mp this).2.2 c.1 (List.mem_map.mpr ⟨c,hc,rfl⟩) c.1 hb rfl
theorem EvB.flat {te:TE}{r:Enc α}[z:FlatE r]{m:Rs α}(he:EvB K Er S OO σ te r m):Ev K Er S OO OO σ te (oF r) m:=λH Q w s P=>by
 refine he H Q w s ?_
 cases m with
 |bad=>exact P
 |err x=>exact P
 |ok a=>
  intro v H' s' hr
  have w':=w.keep s'
  exact P v [] H' s' w'.nil (by rw[Zf];exact Xi s') ⟨rfl,by rw[Zf];exact z.flat w'.i hr⟩
theorem Xb {r:Enc α}[z:MonoE r]{v:V}{a:α}(i:Nat)(hσ:σ[i]?=some (some v))(h:∀x,S.p x->r K x v a):EvB K Er S OO σ (K8 i) r (.ok a):=λH Q w s P=>
 ⟨v,hσ,P v H (Xn.refl _) (z.mono Xv (h _ s))⟩
theorem Vl {o:OE α}{r:Enc α}[z:FrzC o r]{v:V}{a:α}{C:List Xs}(i k:Nat)(hσ:σ[i]?=some (some v))(hk:OO[k]?=some C)(h:∀x,S.p x->o K x v a C):EvB K Er S OO σ (K8 i) r (.ok a):=λH Q w s P=>
 ⟨v,hσ,P v H (Xn.refl _) (z.frz (h _ s) Xv λc hc=>w.tr c (List.mem_flatten.mpr ⟨C,List.mem_of_getElem? hk,hc⟩))⟩
theorem XW:∀{OO:List (List Xs)}{k:Nat}{C:List Xs},OO[k]?=some C->(C::OO.set k []).flatten.Perm OO.flatten
 | [],_,_,h=>by simp at h
 |D::OO,0,C,h=>by simp at h;subst h;simp
 |D::OO,k+1,C,h=>by
  have:=XW (OO:=OO) (k:=k) (C:=C) (by simpa using h)
  simp only[List.set_cons_succ,List.flatten_cons] at this⊢
  refine List.Perm.trans ?_ (this.append_left D)
  rw[←List.append_assoc, ←List.append_assoc]
  exact List.perm_append_comm.append_right _
theorem Qg {OO OO':List (List Xs)}(h:OO'.flatten.Perm OO.flatten)(b:Addr):b∈fl OO'↔b∈fl OO:=(h.map (·.1)).mem_iff
theorem Ym {H:Hp}{OO OO':List (List Xs)}(h:OO'.flatten.Perm OO.flatten):hid H OO'=hid H OO:=by
 funext b;unfold hid
 by_cases hb:b∈fl OO
 ·rw[if_pos hb,if_pos ((Qg h b).mpr hb)]
 ·rw[if_neg hb,if_neg λz=>hb ((Qg h b).mp z)]
theorem DH {o:OE α}{v:V}{a:α}{C:List Xs}(i k:Nat)(hσ:σ[i]?=some (some v))(hk:OO[k]?=some C)(h:∀x,S.p x->o K x v a C):Ev K Er S OO (OO.set k []) σ (K8 i) o (.ok a):=λH Q w s P=>by
 have hp:=XW hk
 exact⟨v,hσ,P v C H (Xn.refl _) (w.of hp) (by rw[Ym hp];exact Xn.refl _) (by rw[Ym hp];exact h _ s)⟩
theorem Xd (n:Int):EvB K Er S OO σ (tC (.int n)) Xg (.ok n):=λH Q w s P=>P _ H (Xn.refl _) rfl
theorem QJ (b:Bool):EvB K Er S OO σ (tC (.bl b)) Xx (.ok b):=λH Q w s P=>P _ H (Xn.refl _) rfl
theorem Xo (x:Str):EvB K Er S OO σ (tC (.str x)) Xm (.ok x):=λH Q w s P=>P _ H (Xn.refl _) rfl
theorem Qr {ta tb:TE}{g:Int->Int->V}{r:Enc β}{f:Int->Int->β}{ma mb:Rs Int}(hg:∀K H i j,r K H (g i j) (f i j))(ha:EvB K Er S OO σ ta Xg ma)(hb:EvB K Er S OO σ tb Xg mb):
  EvB K Er S OO σ (tOp (rI0 g) ta tb) r (ma.bind λa=>mb.bind λb=>.ok (f a b)):=λH Q w s P=>
 ha.run w s FB.tr P λa x H1 s1 w1 q1 r1 P1=>hb.run w1 q1 FB.tr P1 λb y H2 s2 w2 q2 r2 P2=>⟨a,b,r1,r2,P2 _ H2 (Xn.refl _) (hg K H2 a b)⟩
theorem Q5 {ta tb:TE}{Cc:Int->Int->Prop}{g:Int->Int->V}{r:Enc β}{f:Int->Int->Rs β}{ma mb:Rs Int}(hg:∀K H i j c,f i j= .ok c->Cc i j/\r K H (g i j) c)(he:∀i j x,f i j≠ .err x)
  (ha:EvB K Er S OO σ ta Xg ma)(hb:EvB K Er S OO σ tb Xg mb):
  EvB K Er S OO σ (tOp (rI Cc g) ta tb) r (ma.bind λa=>mb.bind λb=>f a b):=λH Q w s P=>
 ha.run w s FB.tr P λa x H1 s1 w1 q1 r1 P1=>hb.run w1 q1 FB.tr P1 λb y H2 s2 w2 q2 r2 P2=>by
  cases e:f a b with
  |bad=>rw[e] at P2;exact P2.elim
  |err x=>exact absurd e (he a b x)
  |ok c=>
   rw[e] at P2
   obtain⟨h1,h2⟩:=hg K H2 a b c e
   exact⟨a,b,r1,r2,h1,P2 _ H2 (Xn.refl _) h2⟩
noncomputable def J2 (a b:Int):Rs Int:=chk ((-(2^64)<a/\a<2^64)∨(-(2^64)<b/\b<2^64)) (.ok (a*b))
noncomputable def Vj (a b:Int):Rs Int:=chk (0<b) (.ok (a % b))
noncomputable def Bd (a b:Int):Rs Int:=chk (0<b/\b.natAbs.log2<9000) (.ok (a/b))
noncomputable def Uu (a b:Int):Rs Int:=chk (0<=b/\b<=1000000/\a.natAbs<2^64) (.ok (a^b.toNat))
theorem YD {c:Prop}[Decidable c]{m:Rs α}{a:α}(h:chk c m= .ok a):c/\m= .ok a:=by
 unfold chk at h;split at h
 ·exact⟨by assumption,h⟩
 ·cases h
theorem Zd {c:Prop}[Decidable c]{a:α}{x:Exc}:chk c (Rs.ok a)≠ .err x:=by
 unfold chk;split<;> exact λz=>nomatch z
theorem Yl {ta tb:TE}{ma mb:Rs Int}(ha:EvB K Er S OO σ ta Xg ma)(hb:EvB K Er S OO σ tb Xg mb):EvB K Er S OO σ (tOp (rI Bl λi j=>.int (i*j)) ta tb) Xg (ma.bind λa=>mb.bind λb=>J2 a b):=
 Q5 (λK H i j c h=>by obtain⟨h1,h2⟩:=YD h;cases h2;exact⟨h1,rfl⟩) (λi j x=>Zd) ha hb
theorem Yo {ta tb:TE}{ma mb:Rs Int}(ha:EvB K Er S OO σ ta Xg ma)(hb:EvB K Er S OO σ tb Xg mb):EvB K Er S OO σ (tOp (rI (λ_ j=>0<j) λi j=>.int (i % j)) ta tb) Xg (ma.bind λa=>mb.bind λb=>Vj a b):=
 Q5 (λK H i j c h=>by obtain⟨h1,h2⟩:=YD h;cases h2;exact⟨h1,rfl⟩) (λi j x=>Zd) ha hb
theorem U2 {ta tb:TE}{ma mb:Rs Int}(ha:EvB K Er S OO σ ta Xg ma)(hb:EvB K Er S OO σ tb Xg mb):EvB K Er S OO σ (tOp (rI (λ_ j=>0<j/\j.natAbs.log2<9000) λi j=>.int (i/j)) ta tb) Xg (ma.bind λa=>mb.bind λb=>Bd a b):=
 Q5 (λK H i j c h=>by obtain⟨h1,h2⟩:=YD h;cases h2;exact⟨h1,rfl⟩) (λi j x=>Zd) ha hb
theorem YW {ta tb:TE}{ma mb:Rs Int}(ha:EvB K Er S OO σ ta Xg ma)(hb:EvB K Er S OO σ tb Xg mb):EvB K Er S OO σ (tOp (rI BW λi j=>.int (i^j.toNat)) ta tb) Xg (ma.bind λa=>mb.bind λb=>Uu a b):=
 Q5 (λK H i j c h=>by obtain⟨h1,h2⟩:=YD h;cases h2;exact⟨h1,rfl⟩) (λi j x=>Zd) ha hb
theorem X5 {ta tb:TE}{ma mb:Rs Int}(ha:EvB K Er S OO σ ta Xg ma)(hb:EvB K Er S OO σ tb Xg mb):EvB K Er S OO σ (tOp (rI0 λi j=>.int (i+j)) ta tb) Xg (ma.bind λa=>mb.bind λb=>.ok (a+b)):=Qr (λ_ _ _ _=>rfl) ha hb
theorem UU {ta tb:TE}{ma mb:Rs Int}(ha:EvB K Er S OO σ ta Xg ma)(hb:EvB K Er S OO σ tb Xg mb):EvB K Er S OO σ (tOp (rI0 λi j=>.int (i-j)) ta tb) Xg (ma.bind λa=>mb.bind λb=>.ok (a-b)):=Qr (λ_ _ _ _=>rfl) ha hb
theorem KU {ta tb:TE}{ma mb:Rs Int}(ha:EvB K Er S OO σ ta Xg ma)(hb:EvB K Er S OO σ tb Xg mb):EvB K Er S OO σ (tOp (rI0 λi j=>.bl (decide (i<j))) ta tb) Xx (ma.bind λa=>mb.bind λb=>.ok (decide (a<b))):=Qr (λ_ _ _ _=>rfl) ha hb
theorem VU {ta tb:TE}{ma mb:Rs Int}(ha:EvB K Er S OO σ ta Xg ma)(hb:EvB K Er S OO σ tb Xg mb):EvB K Er S OO σ (tOp (rI0 λi j=>.bl (decide (j<i))) ta tb) Xx (ma.bind λa=>mb.bind λb=>.ok (decide (b<a))):=Qr (λ_ _ _ _=>rfl) ha hb
theorem CA {ta tb:TE}{ma mb:Rs Int}(ha:EvB K Er S OO σ ta Xg ma)(hb:EvB K Er S OO σ tb Xg mb):EvB K Er S OO σ (tOp (rI0 λi j=>.bl (decide (j<=i))) ta tb) Xx (ma.bind λa=>mb.bind λb=>.ok (decide (b<=a))):=Qr (λ_ _ _ _=>rfl) ha hb
theorem UF {ta:TE}{ma:Rs Int}(ha:EvB K Er S OO σ ta Xg ma):EvB K Er S OO σ (tUn (rU λi=>.int (-i)) ta) Xg (ma.bind λa=>.ok (-a)):=λH Q w s P=>
 ha.run w s FB.tr P λa x H1 s1 w1 q1 r1 P1=>⟨a,r1,P1 _ H1 (Xn.refl _) rfl⟩
class Scal {α:Type}[DecidableEq α](r:Enc α):Prop where
 to:∀{K:PySem.W.Frag}{H H':Hp}{x y:V}{a b:α},r K H x a->r K H' y b->BD x y=true/\decide (x=y)=decide (a=b)
instance:Scal Xg:=⟨fun {K H H' x y a b} h1 h2=>by cases(show x= .int a from h1);cases(show y= .int b from h2);exact⟨rfl,by simp⟩⟩
instance:Scal Xx:=⟨fun {K H H' x y a b} h1 h2=>by cases(show x= .bl a from h1);cases(show y= .bl b from h2);exact⟨rfl,by simp⟩⟩
instance:Scal Xm:=⟨fun {K H H' x y a b} h1 h2=>by cases(show x= .str a from h1);cases(show y= .str b from h2);exact⟨rfl,by simp⟩⟩
theorem YT [DecidableEq α]{r:Enc α}[z:Scal r][MonoE r]{ta tb:TE}{ma mb:Rs α}(ha:EvB K Er S OO σ ta r ma)(hb:EvB K Er S OO σ tb r mb):EvB K Er S OO σ (tOp rEq ta tb) Xx (ma.bind λa=>mb.bind λb=>.ok (decide (a=b))):=λH Q w s P=>
 ha.run w s FB.tr P λa x H1 s1 w1 q1 r1 P1=>hb.run w1 q1 FB.tr P1 λb y H2 s2 w2 q2 r2 P2=>by
  obtain⟨h1,h2⟩:=z.to r1 r2
  exact⟨h1,P2 _ H2 (Xn.refl _) (by rw[h2];rfl)⟩
theorem Z3 [DecidableEq α]{r:Enc α}[z:Scal r][MonoE r]{ta tb:TE}{ma mb:Rs α}(ha:EvB K Er S OO σ ta r ma)(hb:EvB K Er S OO σ tb r mb):EvB K Er S OO σ (tOp rNe ta tb) Xx (ma.bind λa=>mb.bind λb=>.ok (!decide (a=b))):=λH Q w s P=>
 ha.run w s FB.tr P λa x H1 s1 w1 q1 r1 P1=>hb.run w1 q1 FB.tr P1 λb y H2 s2 w2 q2 r2 P2=>by
  obtain⟨h1,h2⟩:=z.to r1 r2
  exact⟨h1,P2 _ H2 (Xn.refl _) (by rw[h2];rfl)⟩
theorem Qw {te:TE}{m:Rs Bool}(h:EvB K Er S OO σ te Xx m):EvT Er S OO σ (tB te) m:=λH Q w s P=>h H _ w s (by
 cases m with
 |bad=>exact P
 |err x=>exact P
 |ok a=>exact λv H' s' r=>⟨a,r,P H' s'⟩)
theorem Xt {te:TE}{m:Rs Bool}(h:EvB K Er S OO σ te Xx m):EvT Er S OO σ (Cb te) m:=Qw h
theorem Qm {t:TT}{m:Rs Bool}(h:EvT Er S OO σ t m):EvT Er S OO σ (BR t) (m.bind λb=>.ok (!b)):=λH Q w s P=>h.run w s FT.tr P λb H1 s1 w1 q1 P1=>P1 H1 (Xn.refl _)
noncomputable def Bh (a b:Rs Bool):Rs Bool:=a.bind λx=>if x=true then b else .ok false
noncomputable def orR (a b:Rs Bool):Rs Bool:=a.bind λx=>if x=true then .ok true else b
theorem QF {t u:TT}{m n:Rs Bool}(h:EvT Er S OO σ t m)(k:EvT Er S OO σ u n):EvT Er S OO σ (tOr t u) (orR m n):=λH Q w s P=>h.run w s FT.tr P λb H1 s1 w1 q1 P1=>by
 cases b with
 |true=>exact P1 H1 (Xn.refl _)
 |false=>exact k H1 Q w1 q1 P1
theorem Gk {t:TE}{m:Rs Bool}(h:EvB K Er S OO σ t Xx m):EvB K Er S OO σ (Cl t) Xx (m.bind λb=>.ok (!b)):=λH Q w s P=>h.run w s FB.tr P λb x H1 s1 w1 q1 r1 P1=>⟨b,r1,P1 _ H1 (Xn.refl _) rfl⟩
theorem VQ {t u:TE}{m n:Rs Bool}(h:EvB K Er S OO σ t Xx m)(k:EvB K Er S OO σ u Xx n):EvB K Er S OO σ (Cu t u) Xx (Bh m n):=λH Q w s P=>h.run w s FB.tr P λb x H1 s1 w1 q1 r1 P1=>⟨b,r1,by
 cases b with
 |true=>rw[if_pos rfl] at P1⊢;exact k H1 Q w1 q1 P1
 |false=>exact P1 _ H1 (Xn.refl _) rfl⟩
theorem Fj {c:TT}{ta tb:TE}{r:Enc α}{mc:Rs Bool}{ma mb:Rs α}(hc:EvT Er S OO σ c mc)(ha:EvB K Er S OO σ ta r ma)(hb:EvB K Er S OO σ tb r mb):EvB K Er S OO σ (tIf c ta tb) r (mc.bind λb=>if b=true then ma else mb):=λH Q w s P=>
 hc.run w s FB.tr P λb H1 s1 w1 q1 P1=>by
  cases b with
  |true=>rw[if_pos rfl] at P1⊢;exact ha H1 Q w1 q1 P1
  |false=>exact hb H1 Q w1 q1 P1
theorem Dv {c:TT}{ta tb:TE}{o:OE α}{mc:Rs Bool}{ma mb:Rs α}(hc:EvT Er S OO σ c mc)(ha:Ev K Er S OO OO' σ ta o ma)(hb:Ev K Er S OO OO' σ tb o mb):Ev K Er S OO OO' σ (tIf c ta tb) o (mc.bind λb=>if b=true then ma else mb):=λH Q w s P=>
 hc.run w s FO.tr P λb H1 s1 w1 q1 P1=>by
  cases b with
  |true=>rw[if_pos rfl] at P1⊢;exact ha H1 Q w1 q1 P1
  |false=>exact hb H1 Q w1 q1 P1
end
section
variable (K:PySem.W.Frag)(Er:Exc->Hp->Prop)(S:SC)(OO:List (List Xs))(σ:St)
noncomputable def FS {α:Type}(r:Enc α)(Q:VK)(a:α)(H:Hp):Prop:=∀ v H',Xn H H'->r K (hid H' OO) v a->Q v H'
noncomputable def EvS {α:Type}(te:TE)(r:Enc α)(m:Rs α):Prop:=∀ H Q,W OO H->S.p (hid H OO)->PZ Er (FS K OO r Q) H m->te σ H Q
noncomputable def rE {α:Type}(r:Enc α)(H:Hp)(v:V)(as:List α):Prop:=∃ p xs,v= .ref p/\H p=some (.lst xs)/\Paired (r K (hid H OO)) xs as
noncomputable def FL {α:Type}(r:Enc α)(Q:VK)(as:List α)(H:Hp):Prop:=∀ v H',Xn H H'->rE K OO r H' v as->Q v H'
noncomputable def EvL {α:Type}(te:TE)(r:Enc α)(m:Rs (List α)):Prop:=∀ H Q,W OO H->S.p (hid H OO)->PZ Er (FL K OO r Q) H m->te σ H Q
end
section
variable {K:PySem.W.Frag}{Er:Exc->Hp->Prop}{S:SC}{OO OO' OO2:List (List Xs)}{σ:St}{α β γ:Type}
theorem FS.tr {r:Enc α}{Q:VK}:∀a H H',Xn H H'->FS K OO r Q a H->FS K OO r Q a H':=λa H H' s h v H2 s2 q=>h v H2 (s.trans s2) q
theorem FL.tr {r:Enc α}{Q:VK}:∀a H H',Xn H H'->FL K OO r Q a H->FL K OO r Q a H':=λa H H' s h v H2 s2 q=>h v H2 (s.trans s2) q
theorem PZ.run {F:β->Hp->Prop}{f:α->Rs β}{H H':Hp}{a:α}{m:Rs α}(hm:m= .ok a)(hF:∀b H H',Xn H H'->F b H->F b H')(s:Xn H H')(P:PZ Er F H (m.bind f)):PZ Er F H' (f a):=by
 subst hm
 have P':PZ Er F H (f a):=P
 revert P'
 cases f a with
 |bad=>exact λz=>z
 |err x=>exact λz H2 s2=>z H2 (s.trans s2)
 |ok b=>exact λz=>hF b H H' s z
theorem EvS.run {te:TE}{r:Enc α}{m:Rs α}(he:EvS K Er S OO σ te r m){H:Hp}{Q:VK}(w:W OO H)(s:S.p (hid H OO)){f:α->Rs β}{F:β->Hp->Prop}(hF:∀b H H',Xn H H'->F b H->F b H')(P:PZ Er F H (m.bind f))
  (hk:∀a v H',Xn H H'->W OO H'->S.p (hid H' OO)->r K (hid H' OO) v a->PZ Er F H' (f a)->Q v H'):te σ H Q:=by
 refine he H Q w s ?_
 cases e:m with
 |bad=>rw[e] at P;exact P
 |err x=>rw[e] at P;exact P
 |ok a=>exact λv H' s' hr=>hk a v H' s' (w.keep s') (S.mono _ _ (Xi s') s) hr (PZ.run e hF s' P)
theorem EvL.run {te:TE}{r:Enc α}{m:Rs (List α)}(he:EvL K Er S OO σ te r m){H:Hp}{Q:VK}(w:W OO H)(s:S.p (hid H OO)){f:List α->Rs β}{F:β->Hp->Prop}(hF:∀b H H',Xn H H'->F b H->F b H')(P:PZ Er F H (m.bind f))
  (hk:∀a v H',Xn H H'->W OO H'->S.p (hid H' OO)->rE K OO r H' v a->PZ Er F H' (f a)->Q v H'):te σ H Q:=by
 refine he H Q w s ?_
 cases e:m with
 |bad=>rw[e] at P;exact P
 |err x=>rw[e] at P;exact P
 |ok a=>exact λv H' s' hr=>hk a v H' s' (w.keep s') (S.mono _ _ (Xi s') s) hr (PZ.run e hF s' P)
theorem PZ.imp {F G:β->Hp->Prop}{H:Hp}{m:Rs β}(P:PZ Er F H m)(h:∀b,m= .ok b->F b H->G b H):PZ Er G H m:=by
 cases m with
 |bad=>exact P
 |err x=>exact P
 |ok b=>exact h b rfl P
theorem EvS.toB {te:TE}{r:Enc α}[z:MonoE r]{m:Rs α}(he:EvS K Er S OO σ te r m):EvB K Er S OO σ te r m:=λH Q w s P=>he H Q w s (P.imp λb _ h v H' s' q=>h v H' s' (z.mono Xv q))
theorem EvS.ev {te:TE}{r:Enc α}{m:Rs α}(he:EvS K Er S OO σ te r m):Ev K Er S OO OO σ te (oF r) m:=λH Q w s P=>he H Q w s (P.imp λb _ h v H' s' q=>
 h v [] H' s' (w.keep s').nil (by rw[Zf];exact Xi s') ⟨rfl,by rw[Zf];exact q⟩)
theorem EvB.sh {te:TE}{r:Enc α}[z:FlatE r]{m:Rs α}(he:EvB K Er S OO σ te r m):EvS K Er S OO σ te r m:=λH Q w s P=>he H Q w s (P.imp λb _ h v H' s' q=>h v H' s' (z.flat (w.keep s').i q))
theorem Ev.sh {te:TE}{o:OE α}{r:Enc α}[z:FrzC o r]{m:Rs α}(he:Ev K Er S OO OO σ te o m):EvS K Er S OO σ te r m:=λH Q w s P=>he.frz H Q w s (P.imp λb _ h v C H' s' w' m' q=>by
 obtain⟨rfl,q⟩:=q
 rw[Zf] at q
 exact h v H' s' q)
theorem X9 {r:Enc α}{v:V}{a:α}(i:Nat)(hσ:σ[i]?=some (some v))(h:∀x,S.p x->r K x v a):EvS K Er S OO σ (K8 i) r (.ok a):=λH Q w s P=>⟨v,hσ,P v H (Xn.refl _) (h _ s)⟩
theorem EvS.ls {te:TE}{r:Enc α}{m:Rs (List α)}(he:EvS K Er S OO σ te (rV r) m):EvL K Er S OO σ te r m:=λH Q w s P=>he H Q w s (P.imp λb _ h v H' s' r9=>by obtain⟨p,xs,e,q,pr⟩:=r9;exact h v H' s' ⟨p,xs,e,Xv _ _ q,pr⟩)
theorem EvB.ls {te:TE}{r:Enc α}[z:FlatE r]{m:Rs (List α)}(he:EvB K Er S OO σ te (rV r) m):EvL K Er S OO σ te r m:=λH Q w s P=>he H Q w s (P.imp λb _ h v H' s' r9=>by obtain⟨p,xs,e,q,pr⟩:=r9;exact h v H' s' ⟨p,xs,e,q,Paired.imp2 (λ_ _ z'=>z.flat (w.keep s').i z') pr⟩)
theorem Ev.ls {te:TE}{r:Enc α}[z:MonoE r]{m:Rs (List α)}(he:Ev K Er S OO OO σ te (oL (oF r)) m):EvL K Er S OO σ te r m:=he.sh.ls
theorem UX {r:Enc α}[z:MonoE r]{v:V}{as:List α}{C:List Xs}(i k:Nat)(hσ:σ[i]?=some (some v))(hk:OO[k]?=some C)(h:∀x,S.p x->oL (oF r) K x v as C):EvL K Er S OO σ (K8 i) r (.ok as):=λH Q w s P=>by
 obtain⟨p,xs,Cs,e,q,c⟩:=h _ s
 refine⟨v,hσ,P v H (Xn.refl _) ⟨p,xs,e,?_,(P3.flat q).1⟩⟩
 exact w.tr (p, .lst xs) (List.mem_flatten.mpr ⟨C,List.mem_of_getElem? hk,by rw[c];exact List.mem_cons_self⟩)
noncomputable def atR (as:List α)(i:Int):Rs α:=match atI as i with
 |some a=>.ok a
 |none=>.bad
theorem K0 {as:List α}{i:Int}{a:α}(h:atR as i= .ok a):atI as i=some a:=by
 unfold atR at h;split at h
 ·cases h;assumption
 ·cases h
theorem K2 {as:List α}{i:Int}{x:Exc}:atR as i≠ .err x:=by unfold atR;split<;> exact λz=>nomatch z
theorem ZD {F:V->α->Prop}{xs:List V}{as:List α}{i:Int}{a:α}(p:Paired F xs as)(h:atI as i=some a):∃x,atI xs i=some x/\F x a:=by
 unfold atI at h⊢
 rw[Paired.len p]
 cases e:ixN as.length i with
 |none=>rw[e] at h;cases h
 |some j=>
  rw[e] at h
  obtain⟨x,h1,h2⟩:=Paired.getR p h
  exact⟨x,h1,h2⟩
theorem PZ.okOf {F:β->Hp->Prop}{H:Hp}{m:Rs β}(he:∀x,m≠ .err x)(P:PZ Er F H m):∃b,m= .ok b/\F b H:=by
 cases m with
 |bad=>exact P.elim
 |err x=>exact absurd rfl (he x)
 |ok b=>exact⟨b,rfl,P⟩
theorem XF {ta tb:TE}{r:Enc α}[z:MonoE r]{ma:Rs (List α)}{mb:Rs Int}(ha:EvB K Er S OO σ ta (rV r) ma)(hb:EvB K Er S OO σ tb Xg mb):EvB K Er S OO σ (tOp (Bk K) ta tb) r (ma.bind λas=>mb.bind λi=>atR as i):=λH Q w s P=>
 ha.run w s FB.tr P λa x H1 s1 w1 q1 ⟨p,xs,e,q,pr⟩ P1=>hb.run w1 q1 FB.tr P1 λb y H2 s2 w2 q2 r2 P2=>by
  obtain⟨c,hc,P3⟩:=P2.okOf λx=>K2
  obtain⟨u,h1,h2⟩:=ZD pr (K0 hc)
  exact⟨p,xs,b,u,e,r2,SqL.of (s2 _ _ q),h1,P3 u H2 (Xn.refl _) (z.mono s2 h2)⟩
theorem Yj {ta tb:TE}{r:Enc α}[z:MonoE r]{ma:Rs (List α)}{mb:Rs Int}(ha:EvB K Er S OO σ ta (rPL r) ma)(hb:EvB K Er S OO σ tb Xg mb):EvB K Er S OO σ (tOp (CJ K) ta tb) r (ma.bind λas=>mb.bind λi=>atR as i):=λH Q w s P=>
 ha.run w s FB.tr P λa x H1 s1 w1 q1 ⟨p,xs,e,q,pr⟩ P1=>hb.run w1 q1 FB.tr P1 λb y H2 s2 w2 q2 r2 P2=>by
  obtain⟨c,hc,P3⟩:=P2.okOf λx=>K2
  obtain⟨u,h1,h2⟩:=ZD pr (K0 hc)
  exact⟨p,xs,b,u,e,r2,SqT.of (s2 _ _ q),h1,P3 u H2 (Xn.refl _) (z.mono s2 h2)⟩
theorem F6 {ta:TE}{r:Enc α}{q:Enc β}{m:Rs (α×β)}(ha:EvB K Er S OO σ ta (rP2 r q) m):EvB K Er S OO σ (tOp (CJ K) ta (tC (.int 1))) q (m.bind λp=>.ok p.2):=λH Q w s P=>
 ha.run w s FB.tr P λa x H1 s1 w1 q1 r9 P1=>by obtain⟨p,x,y,e,q,h1,h2⟩:=r9;exact⟨p,_,1,y,e,rfl,SqT.of q,rfl,P1 _ H1 (Xn.refl _) h2⟩
theorem ZC {ta:TE}{r:Enc α}{m:Rs (List α)}(ha:EvB K Er S OO σ ta (rV r) m):EvB K Er S OO σ (tCB (VY K) (XQ ta Zs)) Xg (m.bind λas=>.ok (as.length:Int)):=λH Q w s P=>
 ha.run w s FB.tr P λa x H1 s1 w1 q1 r9 P1=>by obtain⟨p,xs,e,q,pr⟩:=r9;exact⟨p,xs,by rw[e], .inl (SqL.of q),P1 _ H1 (Xn.refl _) (by rw[Paired.len pr];rfl)⟩
theorem Je {ta:TE}{r:Enc α}{m:Rs (List α)}(ha:EvB K Er S OO σ ta (rPL r) m):EvB K Er S OO σ (tCB (VY K) (XQ ta Zs)) Xg (m.bind λas=>.ok (as.length:Int)):=λH Q w s P=>
 ha.run w s FB.tr P λa x H1 s1 w1 q1 r9 P1=>by obtain⟨p,xs,e,q,pr⟩:=r9;exact⟨p,xs,by rw[e], .inr (SqT.of q),P1 _ H1 (Xn.refl _) (by rw[Paired.len pr];rfl)⟩
theorem DO {r:Enc α}[z:MonoE r]{xs:List V}{as:List α}{H:Hp}{Q:VK}(w:W OO H)(pr:Paired (r K (hid H OO)) xs as)(P:FO K OO OO (oL (oF r)) Q as H):∀p,H p=none->Q (.ref p) (upd H p (.lst xs)):=λp hp=>by
 have hn:=Vw (OO:=OO) hp (o:=.lst xs)
 refine P (.ref p) [(p, .lst xs)] _ (XA hp _) (w.new hp rfl) hn ?_
 refine⟨p,xs,List.replicate as.length [],rfl,(P3.of (Paired.imp2 (λ_ _ h=>z.mono hn h) pr)).imp λ_ _ _ h=>h,by rw[YH]⟩
theorem Paired.take' {F:α->β->Prop}:∀{l:List α}{m:List β} (n:Nat),Paired F l m->Paired F (l.take n) (m.take n)
 |_,_,0,_=>.nil
 |_,_,_+1, .nil=>.nil
 |_,_,n+1, .cons r t=>.cons r (Paired.take' n t)
theorem Paired.drop' {F:α->β->Prop}:∀{l:List α}{m:List β} (n:Nat),Paired F l m->Paired F (l.drop n) (m.drop n)
 |_,_,0,h=>h
 |_,_,_+1, .nil=>.nil
 |_,_,n+1, .cons _ t=>Paired.drop' n t
theorem Paired.rep' {F:α->β->Prop}{l:List α}{m:List β}(h:Paired F l m):∀n:Nat,Paired F (List.replicate n l).flatten (List.replicate n m).flatten
 |0=>.nil
 |n+1=>by simp only[List.replicate_succ,List.flatten_cons];exact Paired.app h (Paired.rep' h n)
noncomputable def JV (as:List α)(lo hi:Option Int):List α:=(as.drop (HT.sIx as.length 0 lo)).take (HT.sIx as.length as.length hi-HT.sIx as.length 0 lo)
theorem ZG {F:V->α->Prop}{xs:List V}{as:List α}(p:Paired F xs as)(lo hi:Option Int):Paired F (Fk xs lo hi) (JV as lo hi):=by
 unfold Fk JV;rw[Paired.len p];exact Paired.take' _ (Paired.drop' _ p)
noncomputable def FP (Q:Option Int->Hp->Prop)(a:Option Int)(H:Hp):Prop:=∀ H',Xn H H'->Q a H'
noncomputable def EvP (Er:Exc->Hp->Prop)(S:SC)(OO:List (List Xs))(σ:St)(t:TO)(m:Rs (Option Int)):Prop:=∀ H Q,W OO H->S.p (hid H OO)->PZ Er (FP Q) H m->t σ H Q
theorem EvP.run {t:TO}{m:Rs (Option Int)}(he:EvP Er S OO σ t m){H:Hp}{Q:Option Int->Hp->Prop}(w:W OO H)(s:S.p (hid H OO)){f:Option Int->Rs β}{F:β->Hp->Prop}(hF:∀b H H',Xn H H'->F b H->F b H')(P:PZ Er F H (m.bind f))
  (hk:∀a H',Xn H H'->W OO H'->S.p (hid H' OO)->PZ Er F H' (f a)->Q a H'):t σ H Q:=by
 refine he H Q w s ?_
 cases e:m with
 |bad=>rw[e] at P;exact P
 |err x=>rw[e] at P;exact P
 |ok a=>exact λH' s'=>hk a H' s' (w.keep s') (S.mono _ _ (Xi s') s) (PZ.run e hF s' P)
theorem Q3:EvP Er S OO σ UI (.ok none):=λH Q w s P=>P H (Xn.refl _)
theorem YJ {te:TE}{m:Rs Int}(h:EvB K Er S OO σ te Xg m):EvP Er S OO σ (Cd te) (m.bind λi=>.ok (some i)):=λH Q w s P=>
 h.run w s (λ_ _ _ s h H2 s2=>h H2 (s.trans s2)) P λa v H1 s1 w1 q1 r1 P1=>⟨a,r1,P1 H1 (Xn.refl _)⟩
theorem VE {te:TE}{tl th:TO}{r:Enc α}[z:MonoE r]{m:Rs (List α)}{ml mh:Rs (Option Int)}(he:EvL K Er S OO σ te r m)(hl:EvP Er S OO σ tl ml)(hh:EvP Er S OO σ th mh):
  Ev K Er S OO OO σ (tSl (Bn K) te tl th) (oL (oF r)) (m.bind λas=>ml.bind λlo=>mh.bind λhi=>.ok (JV as lo hi)):=λH Q w s P=>
 he.run w s FO.tr P λas x H1 s1 w1 q1 ⟨p,xs,e,q,pr⟩ P1=>hl.run w1 q1 FO.tr P1 λlo H2 s2 w2 q2 P2=>hh.run w2 q2 FO.tr P2 λhi H3 s3 w3 q3 P3'=>
  ⟨p,xs,e,SqL.of (s3 _ _ (s2 _ _ q)),DO w3 (ZG (Paired.imp2 (λ_ _ h=>z.mono ((Xi s2).trans (Xi s3)) h) pr) lo hi) P3'⟩
theorem Gc {ta:TE}{r:Enc α}{m:Rs (List α)}(ha:EvB K Er S OO σ ta (rL r) m):EvB K Er S OO σ (tCB (VY K) (XQ ta Zs)) Xg (m.bind λas=>.ok (as.length:Int)):=λH Q w s P=>
 ha.run w s FB.tr P λa x H1 s1 w1 q1 r9 P1=>by obtain⟨p,xs,e,q,pr⟩:=r9;exact⟨p,xs,by rw[e], .inl q,P1 _ H1 (Xn.refl _) (by rw[Paired.len pr];rfl)⟩
theorem Dk {ta tb:TE}{ma:Rs (List Int)}{mb:Rs Int}(ha:EvB K Er S OO σ ta (rL Xg) ma)(hb:EvB K Er S OO σ tb Xg mb):EvB K Er S OO σ (tOp (Bk K) ta tb) Xg (ma.bind λas=>mb.bind λi=>atR as i):=λH Q w s P=>
 ha.run w s FB.tr P λa x H1 s1 w1 q1 ⟨p,xs,e,q,pr⟩ P1=>hb.run w1 q1 FB.tr P1 λb y H2 s2 w2 q2 r2 P2=>by
  obtain⟨c,hc,P3⟩:=P2.okOf λx=>K2
  obtain⟨u,h1,h2⟩:=ZD pr (K0 hc)
  exact⟨p,xs,b,u,e,r2,s2.seq q,h1,P3 u H2 (Xn.refl _) h2⟩
theorem K5 {te:TE}{tl th:TO}{m:Rs (List Int)}{ml mh:Rs (Option Int)}(he:EvB K Er S OO σ te (rL Xg) m)(hl:EvP Er S OO σ tl ml)(hh:EvP Er S OO σ th mh):
  Ev K Er S OO OO σ (tSl (Bn K) te tl th) (oL (oF Xg)) (m.bind λas=>ml.bind λlo=>mh.bind λhi=>.ok (JV as lo hi)):=λH Q w s P=>
 he.run w s FO.tr P λas x H1 s1 w1 q1 ⟨p,xs,e,q,pr⟩ P1=>hl.run w1 q1 FO.tr P1 λlo H2 s2 w2 q2 P2=>hh.run w2 q2 FO.tr P2 λhi H3 s3 w3 q3 P3'=>
  ⟨p,xs,e,s3.seq (s2.seq q),DO w3 (ZG (Paired.imp2 (λ_ _ h=>h) pr) lo hi) P3'⟩
noncomputable def Ux (as bs:List α):Rs (List α):=chk (as.length+bs.length<=sizeLine) (.ok (as++bs))
theorem JU {ta tb:TE}{r:Enc α}[z:MonoE r]{ma mb:Rs (List α)}(ha:EvL K Er S OO σ ta r ma)(hb:EvL K Er S OO σ tb r mb):Ev K Er S OO OO σ (tOp B4 ta tb) (oL (oF r)) (ma.bind λas=>mb.bind λbs=>Ux as bs):=λH Q w s P=>
 ha.run w s FO.tr P λas x H1 s1 w1 q1 ⟨p,xs,e,q,pr⟩ P1=>hb.run w1 q1 FO.tr P1 λbs y H2 s2 w2 q2 ⟨p',ys,e',q',pr'⟩ P2=>by
  obtain⟨c,hc,P3⟩:=P2.okOf λx=>Zd
  obtain⟨h1,h2⟩:=YD hc
  cases h2
  exact⟨p,p',xs,ys,e,e',s2 _ _ q,q',by rw[Paired.len pr,Paired.len pr'];exact h1,DO w2 (Paired.app (Paired.imp2 (λ_ _ h=>z.mono (Xi s2) h) pr) pr') P3⟩
noncomputable def Bp (as:List α)(n:Int):Rs (List α):=chk (-(2^63)<=n/\n<2^63/\as.length*n.toNat<=sizeLine) (.ok (List.replicate n.toNat as).flatten)
theorem GU {ta tb:TE}{r:Enc α}[z:MonoE r]{ma:Rs (List α)}{mb:Rs Int}(ha:EvL K Er S OO σ ta r ma)(hb:EvB K Er S OO σ tb Xg mb):Ev K Er S OO OO σ (tOp BZ ta tb) (oL (oF r)) (ma.bind λas=>mb.bind λn=>Bp as n):=λH Q w s P=>
 ha.run w s FO.tr P λas x H1 s1 w1 q1 ⟨p,xs,e,q,pr⟩ P1=>hb.run w1 q1 FO.tr P1 λn y H2 s2 w2 q2 r2 P2=>by
  obtain⟨c,hc,P3⟩:=P2.okOf λx=>Zd
  obtain⟨⟨h0,h1,h3⟩,h2⟩:=YD hc
  cases h2
  exact⟨p,n,xs,e,r2,s2 _ _ q,h0,h1,by rw[Paired.len pr];exact h3,DO w2 (Paired.rep' (Paired.imp2 (λ_ _ h=>z.mono (Xi s2) h) pr) _) P3⟩
noncomputable def QG (lo hi:Int):List Int:=(List.range (hi-lo).toNat).map λ(i:Nat)=>lo+(i:Int)
theorem CF {o:OE α}:Ev K Er S OO OO σ (BC Zs) (oL o) (.ok []):=λH Q w s P=>⟨Nat.zero_le _,λp hp=>P (.ref p) [(p, .lst [])] _ (XA hp _) (w.new hp rfl) (Vw hp) ⟨p,[],[],rfl, .nil,rfl⟩⟩
noncomputable def FA {α:Type}(K:PySem.W.Frag)(OO:List (List Xs))(r:Enc α)(Q:List V->Hp->Prop)(as:List α)(H:Hp):Prop:=∀ vs H',Xn H H'->Paired (r K (hid H' OO)) vs as->Q vs H'
noncomputable def EvA {α:Type}(K:PySem.W.Frag)(Er:Exc->Hp->Prop)(S:SC)(OO:List (List Xs))(σ:St)(t:TA)(r:Enc α)(m:Rs (List α)):Prop:=∀ H Q,W OO H->S.p (hid H OO)->PZ Er (FA K OO r Q) H m->t σ H Q
theorem XI {r:Enc α}:EvA K Er S OO σ Zs r (.ok []):=λH Q w s P=>P [] H (Xn.refl _) .nil
theorem Xj {te:TE}{t:TA}{r:Enc α}[z:MonoE r]{m:Rs α}{n:Rs (List α)}(he:EvS K Er S OO σ te r m)(ht:EvA K Er S OO σ t r n):EvA K Er S OO σ (XQ te t) r (m.bind λa=>n.bind λas=>.ok (a::as)):=λH Q w s P=>
 he.run w s (λb H H' s h vs H2 s2 p=>h vs H2 (s.trans s2) p) P λa x H1 s1 w1 q1 r1 P1=>by
  refine ht H1 _ w1 q1 ?_
  cases e:n with
  |bad=>rw[e] at P1;exact P1
  |err x=>rw[e] at P1;exact P1
  |ok as=>rw[e] at P1;exact λvs H2 s2 p=>P1 (x::vs) H2 s2 (.cons (z.mono (Xi s2) r1) p)
theorem Ye {t:TA}{r:Enc α}[z:MonoE r]{m:Rs (List α)}(h:EvA K Er S OO σ t r m):Ev K Er S OO OO σ (BC t) (oL (oF r)) (m.bind λas=>chk (as.length<=sizeLine) (.ok as)):=λH Q w s P=>by
 refine h H _ w s ?_
 cases e:m with
 |bad=>rw[e] at P;exact P
 |err x=>rw[e] at P;exact P
 |ok as=>
  rw[e] at P
  intro vs H1 s1 p
  obtain⟨c,hc,P3⟩:=PZ.okOf (λx=>Zd) (show PZ Er _ H (chk (as.length<=sizeLine) (.ok as)) from P)
  obtain⟨h1,h2⟩:=YD hc
  cases h2
  exact⟨by rw[Paired.len p];exact h1,DO (w.keep s1) p (FO.tr _ _ _ s1 P3)⟩
theorem ZZ {t:TA}{r:Enc α}[z:MonoE r]{m:Rs (List α)}(h:EvA K Er S OO σ t r m):EvS K Er S OO σ (Bm t) (rPL r) (m.bind λas=>chk (as.length<=sizeLine) (.ok as)):=λH Q w s P=>by
 refine h H _ w s ?_
 cases e:m with
 |bad=>rw[e] at P;exact P
 |err x=>rw[e] at P;exact P
 |ok as=>
  rw[e] at P
  intro vs H1 s1 p
  obtain⟨c,hc,P3⟩:=PZ.okOf (λx=>Zd) (show PZ Er _ H (chk (as.length<=sizeLine) (.ok as)) from P)
  obtain⟨h1,h2⟩:=YD hc
  cases h2
  have w1:=w.keep s1
  refine⟨by rw[Paired.len p];exact h1,λa ha=>P3 _ _ (s1.trans (XA ha _)) ⟨a,vs,rfl,Q9 w1 ha,Paired.imp2 (λ_ _ q=>z.mono (Xi (XA ha _)) q) p⟩⟩
theorem Y7 {ta tb:TE}{r:Enc α}{q:Enc β}[z:MonoE r][y:MonoE q]{ma:Rs α}{mb:Rs β}(ha:EvS K Er S OO σ ta r ma)(hb:EvS K Er S OO σ tb q mb):EvS K Er S OO σ (Bm (XQ ta (XQ tb Zs))) (rP2 r q) (ma.bind λa=>mb.bind λb=>.ok (a,b)):=λH Q w s P=>
 ha.run w s FS.tr P λa x H1 s1 w1 q1 r1 P1=>hb.run w1 q1 FS.tr P1 λb y' H2 s2 w2 q2 r2 P2=>
  ⟨by show 2<=sizeLine;decide,λp hp=>P2 _ _ (XA hp _) ⟨p,x,y',rfl,Q9 w2 hp,z.mono ((Xi s2).trans (Xi (XA hp _))) r1,y.mono (Xi (XA hp _)) r2⟩⟩
theorem GC {ta tb tc:TE}{r:Enc α}{q:Enc β}{t:Enc γ}[z:MonoE r][y:MonoE q][x:MonoE t]{ma:Rs α}{mb:Rs β}{mc:Rs γ}(ha:EvS K Er S OO σ ta r ma)(hb:EvS K Er S OO σ tb q mb)(hc:EvS K Er S OO σ tc t mc):
  EvS K Er S OO σ (Bm (XQ ta (XQ tb (XQ tc Zs)))) (rP3 r q t) (ma.bind λa=>mb.bind λb=>mc.bind λc=>.ok (a,b,c)):=λH Q w s P=>
 ha.run w s FS.tr P λa x' H1 s1 w1 q1 r1 P1=>hb.run w1 q1 FS.tr P1 λb y' H2 s2 w2 q2 r2 P2=>hc.run w2 q2 FS.tr P2 λc z' H3 s3 w3 q3 r3 P3=>
  ⟨by show 3<=sizeLine;decide,λp hp=>P3 _ _ (XA hp _) ⟨p,x',y',z',rfl,Q9 w3 hp,z.mono (((Xi s2).trans (Xi s3)).trans (Xi (XA hp _))) r1,y.mono ((Xi s3).trans (Xi (XA hp _))) r2,x.mono (Xi (XA hp _)) r3⟩⟩
end
section
variable {K:PySem.W.Frag}{Er:Exc->Hp->Prop}{S:SC}{OO OO' OO2:List (List Xs)}{σ:St}{α β γ ρ ι:Type}{α1 α2 α3 α4 α5 α6:Type}
noncomputable def noE (m:Rs α):Rs α:=match m with
 | .ok a=>.ok a
 |_=>.bad
theorem Ke {m:Rs α}{a:α}(h:noE m= .ok a):m= .ok a:=by
 cases m with
 |ok b=>exact h
 |bad=>cases h
 |err x=>cases h
theorem KL {m:Rs α}{x:Exc}:noE m≠ .err x:=by cases m<;> exact λz=>nomatch z
noncomputable def FF (K:PySem.W.Frag)(o:OE α)(Q:VK)(a:α)(H:Hp):Prop:=∀ v C H',W [C] H'->Xn H (hid H' [C])->o K (hid H' [C]) v a C->Q v H'
noncomputable def sp1 (r1:Enc α1)(o:OE ρ)(f:α1->Rs ρ)(K:PySem.W.Frag):Sp:=λvs H Q _=>∃ v1 a1 b,vs=[v1]/\r1 K H v1 a1/\f a1= .ok b/\FF K o Q b H
noncomputable def sp2 (r1:Enc α1)(r2:Enc α2)(o:OE ρ)(f:α1->α2->Rs ρ)(K:PySem.W.Frag):Sp:=λvs H Q _=>∃ v1 v2 a1 a2 b,vs=[v1,v2]/\r1 K H v1 a1/\r2 K H v2 a2/\f a1 a2= .ok b/\FF K o Q b H
noncomputable def sp3 (r1:Enc α1)(r2:Enc α2)(r3:Enc α3)(o:OE ρ)(f:α1->α2->α3->Rs ρ)(K:PySem.W.Frag):Sp:=λvs H Q _=>∃ v1 v2 v3 a1 a2 a3 b,vs=[v1,v2,v3]/\r1 K H v1 a1/\r2 K H v2 a2/\r3 K H v3 a3/\f a1 a2 a3= .ok b/\FF K o Q b H
theorem Bt {C:List Xs}{H H':Hp}(w:W OO H)(w':W [C] H')(m':Xn H (hid H' [C])):W (C::OO) H'/\Xn (hid H OO) (hid H' (C::OO))/\ZT (hid H' [C]) (hid H' (C::OO)):=by
 have s:Xn H H':=m'.trans Xv
 have f1:fl [C]=C.map (·.1):=by simp[fl]
 have hd:∀b,b∈fl OO->b∉C.map (·.1):=λb hb hc=>by
  obtain⟨u,hu⟩:=KK hb
  exact(XS (m' _ _ (w.tr _ hu))).2 (by rw[f1];exact hc)
 have w2:W (C::OO) H':=by
  refine⟨λc hc=>?_,?_,λc hc=>?_⟩
  ·rw[List.flatten_cons,List.mem_append] at hc
   rcases hc with hc |hc
   ·exact w'.tr c (by simp[hc])
   ·exact s _ _ (w.tr c hc)
  ·rw[XZ]
   refine List.nodup_append.mpr ⟨by rw[←f1];exact w'.nd,w.nd,λa ha b hb e=>?_⟩
   subst e;exact hd a hb ha
  ·rw[List.flatten_cons,List.mem_append] at hc
   rcases hc with hc |hc
   ·exact w'.mu c (by simp[hc])
   ·exact w.mu c hc
 refine⟨w2,λb u q=>?_,λb u q i=>?_⟩
 ·obtain⟨q1,q2⟩:=XS q
  obtain⟨q3,q4⟩:=XS (m' _ _ q1)
  refine YS q3 ?_
  rw[XZ,List.mem_append]
  exact λz=>z.elim (λz=>q4 (by rw[f1];exact z)) q2
 ·exact w2.i b u (XS q).1 i
theorem Ji {o:OE α}[z:FlatO o]{Q:VK}{b:α}{H:Hp}(w:W OO H)(P:FO K OO OO o Q b H):FF K o Q b H:=λv C H' w' m' ho=>by
 obtain⟨w2,h2,h3⟩:=Bt w w' m'
 exact P v C H' (m'.trans Xv) w2 h2 (z.flat h3 ho)
theorem Yw {ta:TE}{r1:Enc α1}{o:OE ρ}[FlatO o]{f:α1->Rs ρ}{ma:Rs α1}(ha:EvB K Er S OO σ ta r1 ma):Ev K Er S OO OO σ (Q7 (sp1 r1 o f K) [] E0 (XQ ta Zs)) o (ma.bind λa=>noE (f a)):=λH Q w s P=>
 ha.run w s FO.tr P λa x H1 s1 w1 q1 r1 P1=>by
  obtain⟨b,hb,P2⟩:=P1.okOf λx=>KL
  exact⟨x,a,b,rfl,r1,Ke hb,Ji w1 P2⟩
theorem Yx {ta tb:TE}{r1:Enc α1}{r2:Enc α2}[z1:MonoE r1]{o:OE ρ}[FlatO o]{f:α1->α2->Rs ρ}{ma:Rs α1}{mb:Rs α2}(ha:EvB K Er S OO σ ta r1 ma)(hb:EvB K Er S OO σ tb r2 mb):
  Ev K Er S OO OO σ (Q7 (sp2 r1 r2 o f K) [] E0 (XQ ta (XQ tb Zs))) o (ma.bind λa=>mb.bind λb=>noE (f a b)):=λH Q w s P=>
 ha.run w s FO.tr P λa x H1 s1 w1 q1 r1 P1=>hb.run w1 q1 FO.tr P1 λb y H2 s2 w2 q2 r2 P2=>by
  obtain⟨c,hc,P3⟩:=P2.okOf λx=>KL
  exact⟨x,y,a,b,c,rfl,z1.mono s2 r1,r2,Ke hc,Ji w2 P3⟩
theorem Z0 {ta tb tc:TE}{r1:Enc α1}{r2:Enc α2}{r3:Enc α3}[z1:MonoE r1][z2:MonoE r2]{o:OE ρ}[FlatO o]{f:α1->α2->α3->Rs ρ}{ma:Rs α1}{mb:Rs α2}{mc:Rs α3}(ha:EvB K Er S OO σ ta r1 ma)(hb:EvB K Er S OO σ tb r2 mb)(hc:EvB K Er S OO σ tc r3 mc):
  Ev K Er S OO OO σ (Q7 (sp3 r1 r2 r3 o f K) [] E0 (XQ ta (XQ tb (XQ tc Zs)))) o (ma.bind λa=>mb.bind λb=>mc.bind λc=>noE (f a b c)):=λH Q w s P=>
 ha.run w s FO.tr P λa x H1 s1 w1 q1 r1 P1=>hb.run w1 q1 FO.tr P1 λb y H2 s2 w2 q2 r2 P2=>hc.run w2 q2 FO.tr P2 λc z H3 s3 w3 q3 r3 P3=>by
  obtain⟨d,hd,P4⟩:=P3.okOf λx=>KL
  exact⟨x,y,z,a,b,c,d,rfl,z1.mono (s2.trans s3) r1,z2.mono s3 r2,r3,Ke hd,Ji w3 P4⟩
structure Jn (γ ι:Type) where
 oo:ι->List (List Xs)
 ss:ι->St
 sc:γ->ι->SC
inductive Ctl (ρ γ:Type) where
 |ret (r:ρ) |nx (g:γ)
noncomputable def FTd (K:PySem.W.Frag)(o:OE ρ)(D:Ends)(r:ρ)(h:Hp):Prop:=∀ v C OO' H',W (C::OO') H'->Xn h (hid H' (C::OO'))->o K (hid H' (C::OO')) v r C->D.rt v H'
noncomputable def FNd (J:Jn γ ι)(D:Ends)(g:γ)(h:Hp):Prop:=∀ x H',W (J.oo x) H'->Xn h (hid H' (J.oo x))->(J.sc g x).p (hid H' (J.oo x))->D.nx (J.ss x) H'
noncomputable def FCd (K:PySem.W.Frag)(o:OE ρ)(J:Jn γ ι)(D:Ends)(c:Ctl ρ γ)(h:Hp):Prop:=match c with
 | .ret r=>FTd K o D r h
 | .nx g=>FNd J D g h
class FdOk (Fd:Ends->β->Hp->Prop):Prop where
 tr:∀D b h h',Xn h h'->Fd D b h->Fd D b h'
instance {o:OE ρ}:FdOk (FTd K o):=⟨λD b h h' s q v C O H' w m x=>q v C O H' w (s.trans m) x⟩
instance {J:Jn γ ι}:FdOk (FNd J):=⟨λD b h h' s q x H' w m y=>q x H' w (s.trans m) y⟩
instance {o:OE ρ}{J:Jn γ ι}:FdOk (FCd K o J):=⟨λD b h h' s q=>by
 cases b with
 |ret r=>exact λv C O H' w m x=>q v C O H' w (s.trans m) x
 |nx g=>exact λx H' w m y=>q x H' w (s.trans m) y⟩
theorem PZ.tr {F:β->Hp->Prop}(hF:∀b H H',Xn H H'->F b H->F b H'){H H':Hp}{m:Rs β}(s:Xn H H')(P:PZ Er F H m):PZ Er F H' m:=by
 cases m with
 |bad=>exact P
 |err x=>exact λH2 s2=>P H2 (s.trans s2)
 |ok b=>exact hF b H H' s P
noncomputable def Sv (Er:Exc->Hp->Prop)(S:SC)(OO:List (List Xs))(σ:St)(t:TS)(Fd:Ends->β->Hp->Prop)(m:Rs β):Prop:=∀ H D,W OO H->S.p (hid H OO)->PZ Er (Fd D) (hid H OO) m->t D σ H
variable {Fd:Ends->β->Hp->Prop}[fd:FdOk Fd]{u:TS}
theorem Ev.st {te:TE}{o:OE α}{m:Rs α}(he:Ev K Er S OO OO' σ te o m){H:Hp}{D:Ends}{Q:VK}(w:W OO H)(s:S.p (hid H OO)){f:α->Rs β}(P:PZ Er (Fd D) (hid H OO) (m.bind f))
  (hk:∀a v C H',W (C::OO') H'->S.p (hid H' (C::OO'))->o K (hid H' (C::OO')) v a C->PZ Er (Fd D) (hid H' (C::OO')) (f a)->Q v H'):te σ H Q:=by
 refine he H Q w s ?_
 cases m with
 |bad=>exact P
 |err x=>exact λH' s'=>P H' (Xv.trans s')
 |ok a=>exact λv C H' s' w' m' ho=>hk a v C H' w' (S.mono _ _ m' s) ho (PZ.tr (fd.tr D) m' P)
theorem EvB.st {te:TE}{r:Enc α}{m:Rs α}(he:EvB K Er S OO σ te r m){H:Hp}{D:Ends}{Q:VK}(w:W OO H)(s:S.p (hid H OO)){f:α->Rs β}(P:PZ Er (Fd D) (hid H OO) (m.bind f))
  (hk:∀a v H',Xn H H'->W OO H'->S.p (hid H' OO)->r K H' v a->PZ Er (Fd D) (hid H' OO) (f a)->Q v H'):te σ H Q:=by
 refine he H Q w s ?_
 cases m with
 |bad=>exact P
 |err x=>exact λH' s'=>P H' (Xv.trans s')
 |ok a=>exact λv H' s' hr=>hk a v H' s' (w.keep s') (S.mono _ _ (Xi s') s) hr (PZ.tr (fd.tr D) (Xi s') P)
theorem EvS.st {te:TE}{r:Enc α}{m:Rs α}(he:EvS K Er S OO σ te r m){H:Hp}{D:Ends}{Q:VK}(w:W OO H)(s:S.p (hid H OO)){f:α->Rs β}(P:PZ Er (Fd D) (hid H OO) (m.bind f))
  (hk:∀a v H',Xn H H'->W OO H'->S.p (hid H' OO)->r K (hid H' OO) v a->PZ Er (Fd D) (hid H' OO) (f a)->Q v H'):te σ H Q:=by
 refine he H Q w s ?_
 cases m with
 |bad=>exact P
 |err x=>exact λH' s'=>P H' (Xv.trans s')
 |ok a=>exact λv H' s' hr=>hk a v H' s' (w.keep s') (S.mono _ _ (Xi s') s) hr (PZ.tr (fd.tr D) (Xi s') P)
theorem EvT.st {tt:TT}{m:Rs Bool}(he:EvT Er S OO σ tt m){H:Hp}{D:Ends}{Q:Bool->Hp->Prop}(w:W OO H)(s:S.p (hid H OO)){f:Bool->Rs β}(P:PZ Er (Fd D) (hid H OO) (m.bind f))
  (hk:∀b H',W OO H'->S.p (hid H' OO)->PZ Er (Fd D) (hid H' OO) (f b)->Q b H'):tt σ H Q:=by
 refine he H Q w s ?_
 cases m with
 |bad=>exact P
 |err x=>exact λH' s'=>P H' (Xv.trans s')
 |ok a=>exact λH' s'=>hk a H' (w.keep s') (S.mono _ _ (Xi s') s) (PZ.tr (fd.tr D) (Xi s') P)
theorem Vn {OO:List (List Xs)}{k:Nat}{C:List Xs}:(OO.set k C).set k []=OO.set k []:=by simp
theorem B8 {C:List Xs}{H:Hp}{k:Nat}(w:W (C::OO) H)(hk:k<OO.length):W (OO.set k C) H/\Xn (hid H (C::OO)) (hid H (OO.set k C)):=by
 have h1:=XW (OO:=OO) (k:=k) (C:=OO[k]) (by simp[hk])
 have h2:=XW (OO:=OO.set k C) (k:=k) (C:=C) (by simp[hk])
 rw[Vn] at h2
 have h3:(OO.set k C).flatten.Perm (C++(OO.set k []).flatten):=by simpa using h2.symm
 have h4:(C::OO).flatten.Perm (C++(OO[k]++(OO.set k []).flatten)):=by
  rw[List.flatten_cons];exact(by simpa using h1.symm:OO.flatten.Perm (OO[k]++(OO.set k []).flatten)).append_left C
 have h5:(C++(OO.set k []).flatten).Sublist (C++(OO[k]++(OO.set k []).flatten)):=List.Sublist.append (List.Sublist.refl _) (List.sublist_append_right _ _)
 have w1:W [C++(OO[k]++(OO.set k []).flatten)] H:=w.of (by simpa using h4.symm)
 have w2:W [C++(OO.set k []).flatten] H:=w1.sub (by simpa using h5)
 refine⟨w2.of (by simpa using h3),QX (Xn.refl _) λb hb=>?_⟩
 obtain⟨o,ho⟩:=KK hb
 exact QQ (h4.mem_iff.mpr (h5.mem (h3.mem_iff.mp ho)))
theorem Q2 {te:TE}{o:OE α}[MonoO o]{m:Rs α}{f:α->Rs β}(i k:Nat)(he:Ev K Er S OO OO' σ te o m)(hk:k<OO'.length)(hr:∀a v C,Sv Er (S.addO K o v a C) (OO'.set k C) (σ.set i (some v)) u Fd (f a)):Sv Er S OO σ (Vc (G1 te (Y8 i)) u) Fd (m.bind f):=λH D w s P=>
 he.st w s P λa v C H' w' s' ho P'=>by
  obtain⟨w2,h2⟩:=B8 w' hk
  exact hr a v C H' D w2 ⟨S.mono _ _ h2 s',MonoO.mono h2 ho⟩ (PZ.tr (fd.tr D) h2 P')
theorem XL {te:TE}{r:Enc α}[MonoE r]{m:Rs α}{f:α->Rs β}(i:Nat)(he:EvS K Er S OO σ te r m)(hr:∀a v,Sv Er (S.add K r v a) OO (σ.set i (some v)) u Fd (f a)):Sv Er S OO σ (Vc (G1 te (Y8 i)) u) Fd (m.bind f):=λH D w s P=>
 he.st w s P λa v H' s1 w' s' ho P'=>hr a v H' D w' ⟨s',ho⟩ P'
theorem XN {te:TE}{o:OE ρ}{m:Rs ρ}(he:Ev K Er S OO OO' σ te o m):Sv Er S OO σ (Vc (BX te) u) (FTd K o) m:=λH D w s P=>
 he H _ w s (by
  cases m with
  |bad=>exact P
  |err x=>exact λH' s'=>P H' (Xv.trans s')
  |ok a=>exact λv C H' s' w' m' ho=>P v C OO' H' w' m' ho)
theorem Cm {J:Jn γ ι}{t:TS}{o:OE ρ}{m:Rs γ}(h:Sv Er S OO σ t (FNd J) m):Sv Er S OO σ t (FCd K o J) (m.bind λr=>.ok (.nx r)):=λH D w s P=>h H D w s (by
 cases m with
 |bad=>exact P
 |err x=>exact P
 |ok a=>exact P)
theorem Yf {J:Jn γ ι}(x:ι)(g:γ)(h1:OO=J.oo x)(h2:σ=J.ss x)(h3:∀h,S.p h->(J.sc g x).p h):Sv Er S OO σ Kt (FNd J) (.ok g):=λH D w s P=>by
 subst h1 h2
 exact P x H w (Xn.refl _) (h3 _ s)
theorem Yy {o:OE ρ}{c:TT}{t1:TS}{mc:Rs Bool}{m1 m2:Rs ρ}(hc:EvT Er S OO σ c mc)(h1:Sv Er S OO σ t1 (FTd K o) m1)(h2:Sv Er S OO σ u (FTd K o) m2):Sv Er S OO σ (Vc (Bo c t1 Kt) u) (FTd K o) (mc.bind λb=>if b=true then m1 else m2):=λH D w s P=>
 hc.st (Fd:=FTd K o) w s P λb H' w' s' P'=>by
  cases b with
  |true=>rw[if_pos rfl] at P'⊢;exact h1 H' _ w' s' P'
  |false=>exact h2 H' D w' s' P'
theorem UZ {o:OE ρ}{J:Jn γ ι}{c:TT}{t1:TS}{mc:Rs Bool}{m1:Rs ρ}{m2:Rs (Ctl ρ γ)}(hc:EvT Er S OO σ c mc)(h1:Sv Er S OO σ t1 (FTd K o) m1)(h2:Sv Er S OO σ u (FCd K o J) m2):Sv Er S OO σ (Vc (Bo c t1 Kt) u) (FCd K o J) (mc.bind λb=>if b=true then m1.bind (λr=>.ok (.ret r)) else m2):=λH D w s P=>
 hc.st (Fd:=FCd K o J) w s P λb H' w' s' P'=>by
  cases b with
  |true=>
   rw[if_pos rfl] at P'⊢
   refine h1 H' _ w' s' ?_
   cases m1 with
   |bad=>exact P'
   |err x=>exact P'
   |ok a=>exact P'
  |false=>exact h2 H' D w' s' P'
theorem Qk {c:TT}{t1 t2:TS}{mc:Rs Bool}{m1 m2:Rs β}(hc:EvT Er S OO σ c mc)(h1:Sv Er S OO σ t1 Fd m1)(h2:Sv Er S OO σ t2 Fd m2):Sv Er S OO σ (Bo c t1 t2) Fd (mc.bind λb=>if b=true then m1 else m2):=λH D w s P=>
 hc.st w s P λb H' w' s' P'=>by
  cases b with
  |true=>rw[if_pos rfl] at P'⊢;exact h1 H' _ w' s' P'
  |false=>exact h2 H' D w' s' P'
theorem Zk {J:Jn γ ι}{t:TS}{m:Rs γ}{f:γ->Rs β}(hb:Sv Er S OO σ t (FNd J) m)(hr:∀g x,Sv Er (J.sc g x) (J.oo x) (J.ss x) u Fd (f g)):Sv Er S OO σ (Vc t u) Fd (m.bind f):=λH D w s P=>
 hb H _ w s (by
  cases m with
  |bad=>exact P
  |err x=>exact P
  |ok g=>exact λx H' w' m' q=>hr g x H' D w' q (PZ.tr (fd.tr D) m' P))
noncomputable def Vi (f:γ->Rs ρ):Ctl ρ γ->Rs ρ
 | .ret r=>.ok r
 | .nx g=>f g
theorem Sv.weak {S2:SC}{t:TS}{m:Rs β}(h:Sv Er S2 OO σ t Fd m)(hs:∀x,S.p x->S2.p x):Sv Er S OO σ t Fd m:=λH D w s P=>h H D w (hs _ s) P
theorem Eh {C D C':List Xs}{H:Hp}{k:Nat}{p:Addr}{o:HO}(w:W (D::OO) H)(hk:OO[k]?=some C)(hp:p∈C.map (·.1))(hC:(C'.map (·.1)).Perm ((C++D).map (·.1)))(ht:∀c∈C',upd H p o c.1=some c.2)(hm:∀c∈C',CG c.2=true):
  W (OO.set k C') (upd H p o)/\hid (upd H p o) (OO.set k C')=hid H (D::OO):=by
 have hlt:k<OO.length:=by
  rcases Nat.lt_or_ge k OO.length with h |h
  ·exact h
  ·rw[List.getElem?_eq_none h] at hk;cases hk
 have h1:=XW hk
 have h2:=XW (OO:=OO.set k C') (k:=k) (C:=C') (by simp[hlt])
 rw[Vn] at h2
 have h3:(OO.set k C').flatten.Perm (C'++(OO.set k []).flatten):=by simpa using h2.symm
 have h4:(D::OO).flatten.Perm (D++(C++(OO.set k []).flatten)):=by
  rw[List.flatten_cons];exact(by simpa using h1.symm:OO.flatten.Perm (C++(OO.set k []).flatten)).append_left D
 have hfl:(fl (OO.set k C')).Perm (fl (D::OO)):=by
  unfold fl
  refine(h3.map _).trans (List.Perm.trans ?_ (h4.map _).symm)
  simp only[List.map_append]
  refine(hC.append_right _).trans ?_
  simp only[List.map_append]
  rw[←List.append_assoc]
  exact List.perm_append_comm.append_right _
 have nd:=w.nd
 refine⟨⟨λc hc=>?_,hfl.nodup_iff.mpr nd,λc hc=>?_⟩,?_⟩
 ·rcases List.mem_append.mp (h3.mem_iff.mp hc) with hc |hc
  ·exact ht c hc
  ·have hne:c.1≠p:=λe=>by
    have nd2:((D++(C++(OO.set k []).flatten)).map (·.1)).Nodup:=(h4.map _).nodup_iff.mp nd
    simp only[List.map_append] at nd2
    have nd3:=(List.nodup_append.mp nd2).2.1
    exact(List.nodup_append.mp nd3).2.2 p hp c.1 (List.mem_map.mpr ⟨c,hc,rfl⟩) e.symm
   rw[Xr hne]
   exact w.tr c (h4.mem_iff.mpr (by simp[hc]))
 ·rcases List.mem_append.mp (h3.mem_iff.mp hc) with hc |hc
  ·exact hm c hc
  ·exact w.mu c (h4.mem_iff.mpr (by simp[hc]))
 ·funext b
  unfold hid
  by_cases hb:b∈fl (D::OO)
  ·rw[if_pos hb,if_pos (hfl.mem_iff.mpr hb)]
  ·rw[if_neg hb,if_neg λz=>hb (hfl.mem_iff.mp z)]
   refine Xr λe=>hb ?_
   rw[e]
   obtain⟨c,hc,rfl⟩:=List.mem_map.mp hp
   exact QQ (h4.mem_iff.mpr (by simp[hc]))
theorem YF {Cs:List (List Xs)}{D:List Xs}:(Cs++[D]).flatten=Cs.flatten++D:=by simp
theorem Zo {ta:TE}{o:OE α}[MonoO o]{m:Rs α}{f:List α->Rs β}{v:V}{as:List α}{C:List Xs}(i k:Nat)(hσ:σ[i]?=some (some v))(hk:OO[k]?=some C)(hk':OO'[k]?=some C)(h:∀x,S.p x->oL o K x v as C)(he:Ev K Er S OO OO' σ ta o m)
  (hr:∀a C',Sv Er (S.addO K (oL o) v (as++[a]) C') (OO'.set k C') σ u Fd (f (as++[a]))):Sv Er S OO σ (Vc (Da (tBM K "list" U7 (K8 i) (XQ ta Zs))) u) Fd (m.bind λa=>chk (as.length<sizeLine) (f (as++[a]))):=λH D w s P=>by
 obtain⟨p,xs,Cs,e,q,c⟩:=h _ s
 subst c
 have hH:H p=some (.lst xs):=w.tr (p, .lst xs) (List.mem_flatten.mpr ⟨_,List.mem_of_getElem? hk,List.mem_cons_self⟩)
 refine⟨v,hσ,by rw[e];exact .inl ⟨rfl,_,SqL.of hH⟩,he.st w s P λa y D' H' w' s' ho P'=>?_⟩
 obtain⟨p',xs',Cs',e2,q2,c2⟩:=h _ s'
 rw[e] at e2;cases e2
 have c3:(p,HO.lst xs)=(p,HO.lst xs')/\Cs.flatten=Cs'.flatten:=by
  injection c2 with h1 h2
  exact⟨h1,h2⟩
 obtain⟨c3,c4⟩:=c3
 cases c3
 have hH':H' p=some (.lst xs):=w'.tr (p, .lst xs) (by rw[List.flatten_cons];exact List.mem_append_right _ (List.mem_flatten.mpr ⟨_,List.mem_of_getElem? hk',List.mem_cons_self⟩))
 cases hlt:decide (as.length<sizeLine) with
 |false=>rw[chk,if_neg (by simpa using hlt)] at P';exact P'.elim
 |true=>
  have hlt':as.length<sizeLine:=by simpa using hlt
  rw[Xl hlt'] at P'
  have wnd:=w'.nd
  have hcell:∀c∈(p,HO.lst (xs++[y]))::(Cs'++[D']).flatten,upd H' p (.lst (xs++[y])) c.1=some c.2:=λc hc=>by
   rcases List.mem_cons.mp hc with rfl |hc
   ·exact XU
   ·have hp1:=XW hk'
    have w3:W [D'++(((p,HO.lst xs)::Cs.flatten)++(OO'.set k []).flatten)] H':=w'.of (by
     simp only[List.flatten_cons,List.flatten_nil,List.append_nil]
     exact(by simpa using hp1:(((p,HO.lst xs)::Cs.flatten)++(OO'.set k []).flatten).Perm OO'.flatten).append_left D')
    have hin:c∈D'++(((p,HO.lst xs)::Cs.flatten)++(OO'.set k []).flatten):=by
     rw[YF,List.mem_append] at hc
     rcases hc with hc |hc
     ·rw[←c4] at hc;simp[hc]
     ·simp[hc]
    have hne:c.1≠p:=λee=>by
     have nd3:=w3.nd
     rw[YF,List.mem_append, ←c4] at hc
     simp only[fl,List.flatten_cons,List.flatten_nil,List.append_nil,List.map_append,List.cons_append,List.map_cons] at nd3
     rw[List.nodup_append] at nd3
     obtain⟨_,n2,n3⟩:=nd3
     rcases hc with hc |hc
     ·exact(List.nodup_cons.mp n2).1 (List.mem_append_left _ (List.mem_map.mpr ⟨c,hc,ee⟩))
     ·exact n3 c.1 (List.mem_map.mpr ⟨c,hc,rfl⟩) p List.mem_cons_self ee
    rw[Xr hne]
    exact w3.tr c (by simpa using hin)
  obtain⟨w4,h4⟩:=Eh (C':=(p, .lst (xs++[y]))::(Cs'++[D']).flatten) w' hk' List.mem_cons_self (by simp[YF,c4]) hcell (λc hc=>by
   rcases List.mem_cons.mp hc with rfl |hc
   ·rfl
   ·rw[YF,List.mem_append, ←c4] at hc
    rcases hc with hc |hc
    ·exact w'.mu c (by rw[List.flatten_cons];exact List.mem_append_right _ (List.mem_flatten.mpr ⟨_,List.mem_of_getElem? hk',List.mem_cons_of_mem _ hc⟩))
    ·exact w'.mu c (by rw[List.flatten_cons];exact List.mem_append_left _ hc))
  refine⟨p,xs,y,e,rfl,hH',by rw[(P3.len q).1];exact hlt',?_⟩
  refine hr a _ _ D w4 ?_ (by rw[h4];exact P')
  rw[h4]
  exact⟨s',⟨p,xs++[y],Cs'++[D'],e,q2.snoc ho,rfl⟩⟩
end
section
variable {K:PySem.W.Frag}{Er:Exc->Hp->Prop}{S:SC}{OO OO' OO2:List (List Xs)}{σ:St}{α β γ ρ ι δ ε:Type}
variable {Fd:Ends->β->Hp->Prop}[fd:FdOk Fd]{u:TS}
noncomputable def forN:List α->γ->(γ->α->Rs γ)->Rs γ
 | [],g,_=>.ok g
 |a::as,g,f=>(f g a).bind λg'=>forN as g' f
noncomputable def forC:List α->γ->(γ->α->Rs (Ctl ρ γ))->Rs (Ctl ρ γ)
 | [],g,_=>.ok (.nx g)
 |a::as,g,f=>(f g a).bind λc=>match c with
  | .ret r=>.ok (.ret r)
  | .nx g'=>forC as g' f
theorem Yd {m:Rs α}{f:α->Rs β}{g:β->Rs γ}:(m.bind f).bind g=m.bind λa=>(f a).bind g:=by cases m<;> rfl
structure Tgt (K:PySem.W.Frag)(OO:List (List Xs))(g:TG)(r:Enc α)(κ:Type) where
 set:κ->St->St
 sc:α->κ->SC->SC
 ok:∀{H:Hp}{v:V}{a:α}{σ:St}{S:SC}{Q:St->Hp->Prop},r K (hid H OO) v a->S.p (hid H OO)->(∀x,(sc a x S).p (hid H OO)->Q (set x σ) H)->g v σ H Q
noncomputable def tg1 {r:Enc α}[MonoE r](i:Nat):Tgt K OO (Y8 i) r V where
 set:=λv σ=>σ.set i (some v)
 sc:=λa v S=>S.add K r v a
 ok:=fun {H v a σ S Q} hr hs hq=>hq v ⟨hs,hr⟩
noncomputable def tg3 {r:Enc α}{q:Enc β}{t:Enc γ}[MonoE r][MonoE q][MonoE t](i j k:Nat):Tgt K OO (BM K 3 (Vs (Y8 i) (Vs (Y8 j) (Vs (Y8 k) BE)))) (rP3 r q t) (V×V×V) where
 set:=λv σ=>((σ.set i (some v.1)).set j (some v.2.1)).set k (some v.2.2)
 sc:=λa v S=>((S.add K r v.1 a.1).add K q v.2.1 a.2.1).add K t v.2.2 a.2.2
 ok:=fun {H v a σ S Q} r9 hs hq=>by obtain⟨p,x,y,z,e,h,h1,h2,h3⟩:=r9;exact⟨p,_,e,SqT.of (Xv _ _ h),rfl,x,[y,z],rfl,y,[z],rfl,z,[],rfl,rfl,hq (x,y,z) ⟨⟨⟨hs,h1⟩,h2⟩,h3⟩⟩
structure Walk (K:PySem.W.Frag)(Er:Exc->Hp->Prop)(S:SC)(OO:List (List Xs))(σ:St)(wi:TI)(r:Enc α)(m:Rs (List α)):Prop where
 ok:∀{H:Hp}{R:It->Hp->Prop},W OO H->S.p (hid H OO)->PZ Er (λas H=>∀ J H',Xn H H'->
   (∀(i:Nat) a,as[i]?=some a->∀OO2 H2,W OO2 H2->Xn (hid H' OO) (hid H2 OO2)->J.go i H2/\∀x H3,J.yld i H2 x H3->Xn H2 H3/\r K (hid H3 OO2) x a)->
   (∀OO2 H2,W OO2 H2->Xn (hid H' OO) (hid H2 OO2)->J.stop as.length H2)->R J H') H m->wi σ H R
theorem Z5 {te:TE}{r:Enc α}[z:MonoE r]{m:Rs (List α)}(he:EvS K Er S OO σ te (rV r) m):Walk K Er S OO σ (F3 K te) r m:=⟨fun {H R} w s P=>by
 refine he H _ w s (P.imp λas _ h v H' s' ⟨p,xs,e,hp,pr⟩=>⟨p,e,⟨xs,SqL.of (Xv _ _ hp)⟩,h _ H' s' ?_ ?_⟩)
 ·intro i a ha OO2 H2 w2 m2
  obtain⟨x,hx,rx⟩:=Paired.getR pr ha
  have hq:SqL K H2 p xs:=SqL.of (Xv _ _ (m2 _ _ hp))
  refine⟨⟨xs,x,hq,hx⟩,λy H3 r9=>?_⟩
  obtain⟨e3,hy⟩:=r9
  subst e3
  refine⟨Xn.refl _,?_⟩
  have:=hy xs hq
  rw[hx] at this
  cases this
  exact z.mono m2 rx
 ·intro OO2 H2 w2 m2
  exact⟨xs,SqL.of (Xv _ _ (m2 _ _ hp)),by rw[Paired.len pr];exact Nat.le_refl _⟩⟩
theorem Gq {te:TE}{r:Enc α}[z:MonoE r]{m:Rs (List α)}(he:EvS K Er S OO σ te (rPL r) m):Walk K Er S OO σ (Bx K te) r m:=⟨fun {H R} w s P=>by
 refine he H _ w s (P.imp λas _ h v H' s' ⟨p,xs,e,hp,pr⟩=>⟨p,e,⟨xs,SqT.of (Xv _ _ hp)⟩,h _ H' s' ?_ ?_⟩)
 ·intro i a ha OO2 H2 w2 m2
  obtain⟨x,hx,rx⟩:=Paired.getR pr ha
  have hq:SqT K H2 p xs:=SqT.of (Xv _ _ (m2 _ _ hp))
  refine⟨⟨xs,x,hq,hx⟩,λy H3 r9=>?_⟩
  obtain⟨e3,hy⟩:=r9
  subst e3
  refine⟨Xn.refl _,?_⟩
  have:=hy xs hq
  rw[hx] at this
  cases this
  exact z.mono m2 rx
 ·intro OO2 H2 w2 m2
  exact⟨xs,SqT.of (Xv _ _ (m2 _ _ hp)),by rw[Paired.len pr];exact Nat.le_refl _⟩⟩
theorem Ut {lo hi:Int}{i:Nat}{a:Int}(h:(QG lo hi)[i]?=some a):a=lo+i/\i<(hi-lo).toNat:=by
 unfold QG at h
 rw[List.getElem?_map] at h
 rcases Nat.lt_or_ge i (hi-lo).toNat with q |q
 ·rw[List.getElem?_range q] at h;exact⟨(Option.some.inj h).symm,q⟩
 ·rw[List.getElem?_eq_none (by simpa using q)] at h;cases h
theorem Ul {lo hi:Int}:(QG lo hi).length=(hi-lo).toNat:=by simp[QG]
noncomputable def G3 (lo hi:Int):Rs (List Int):=chk (-(2^62)<=lo/\lo<2^62/\ -(2^62)<=hi/\hi<2^62) (.ok (QG lo hi))
theorem YN {te:TE}{m:Rs Int}(he:EvB K Er S OO σ te Xg m):Walk K Er S OO σ (CC (XQ te Zs)) Xg (m.bind λn=>G3 0 n):=⟨fun {H R} w s P=>
 he.run w s (λas H H' s' h J H2 s2=>h J H2 (s'.trans s2)) P λn v H1 s1 w1 q1 r1 P1=>by
  obtain⟨c,hc,P2⟩:=P1.okOf λx=>Zd
  obtain⟨⟨_,_,h1,h2⟩,h3⟩:=YD hc
  cases h3
  refine⟨n,by rw[show v= .int n from r1],h1,h2,P2 _ H1 (Xn.refl _) (λi a ha OO2 H2 w2 m2=>?_) λOO2 H2 w2 m2=>?_⟩
  ·obtain⟨e1,e2⟩:=Ut ha
   rw[Int.sub_zero] at e2
   refine⟨e2,λx H3 r9=>?_⟩
   obtain⟨e3,e4⟩:=r9
   subst e3
   exact⟨Xn.refl _,by rw[e4,e1];rfl⟩
  ·show n.toNat<=_
   rw[Ul,Int.sub_zero];exact Nat.le_refl _⟩
theorem Fa {wi:TI}{g:TG}{tb:TS}{r:Enc α}{κ:Type}{m:Rs (List α)}{body:γ->α->Rs γ}{f:γ->Rs β}(J:Jn γ ι)(T:∀OO,Tgt K OO g r κ)(x0:ι)(g0:γ)(he:Walk K Er S OO σ wi r m)(h1:OO=J.oo x0)(h2:σ=J.ss x0)(h3:∀h,S.p h->(J.sc g0 x0).p h)
  (hb:∀g x a v,Sv Er ((T (J.oo x)).sc a v (J.sc g x)) (J.oo x) ((T (J.oo x)).set v (J.ss x)) tb (FNd J) (body g a))
  (hr:∀g x,Sv Er (J.sc g x) (J.oo x) (J.ss x) u Fd (f g)):Sv Er S OO σ (Vc (By wi g tb) u) Fd (m.bind λas=>(forN as g0 body).bind f):=λH D w s P=>by
 refine he.ok w s ?_
 cases em:m with
 |bad=>rw[em] at P;exact P
 |err x=>rw[em] at P;exact λH' s'=>P H' (Xv.trans s')
 |ok as=>
  rw[em] at P
  have P:PZ Er (Fd D) (hid H OO) ((forN as g0 body).bind f):=P
  intro It H' s' hgo hstop
  refine⟨λi mm σ' H2=>mm=as.length-i/\i<=as.length/\∃x gg,σ'=J.ss x/\W (J.oo x) H2/\Xn (hid H' OO) (hid H2 (J.oo x))/\(J.sc gg x).p (hid H2 (J.oo x))/\PZ Er (Fd D) (hid H2 (J.oo x)) ((forN (as.drop i) gg body).bind f),⟨as.length,rfl,Nat.zero_le _,x0,g0,h2,?_,?_,?_,?_⟩,?_⟩
  ·rw[←h1];exact w.keep s'
  ·rw[←h1];exact Xn.refl _
  ·rw[←h1];exact h3 _ (S.mono _ _ (Xi s') s)
  ·rw[←h1,List.drop_zero];exact PZ.tr (fd.tr D) (Xi s') P
  ·rintro i mm σ' H2 ⟨rfl,hi,x,gg,rfl,w2,m2,sc2,P2⟩
   by_cases hlt:i<as.length
   ·right
    have ha:as[i]?=some as[i]:=by simp[hlt]
    obtain⟨h4,h5⟩:=hgo i _ ha (J.oo x) H2 w2 m2
    refine⟨h4,λσ3 H3=>∃ x gg,σ3=J.ss x/\W (J.oo x) H3/\Xn (hid H' OO) (hid H3 (J.oo x))/\(J.sc gg x).p (hid H3 (J.oo x))/\PZ Er (Fd D) (hid H3 (J.oo x)) ((forN (as.drop (i+1)) gg body).bind f),λσ3 H3 q=>⟨as.length-(i+1),Nat.sub_lt_sub_left hlt (Nat.lt_succ_self i),rfl,hlt,q⟩,λy H3 hy=>?_⟩
    obtain⟨s3,r3⟩:=h5 y H3 hy
    have w3:=w2.keep s3
    have m3:=Xi (OO:=J.oo x) s3
    refine(T (J.oo x)).ok r3 ((J.sc gg x).mono _ _ m3 sc2) λv hv=>hb gg x as[i] v H3 _ w3 hv ?_
    rw[List.drop_eq_getElem_cons hlt] at P2
    have P3:PZ Er (Fd D) (hid H2 (J.oo x)) ((body gg as[i]).bind λg'=>(forN (as.drop (i+1)) g' body).bind f):=by rw[←Yd];exact P2
    cases eb:body gg as[i] with
    |bad=>rw[eb] at P3;exact P3
    |err x=>rw[eb] at P3;exact λH4 s4=>P3 H4 (m3.trans s4)
    |ok g'=>
     rw[eb] at P3
     exact λx' H4 w4 m4 sc4=>⟨x',g',rfl,w4,m2.trans (m3.trans m4),sc4,PZ.tr (fd.tr D) (m3.trans m4) P3⟩
   ·left
    have e:i=as.length:=Nat.le_antisymm hi (Nat.not_lt.mp hlt)
    subst e
    refine⟨hstop (J.oo x) H2 w2 m2,hr gg x H2 D w2 sc2 ?_⟩
    rw[List.drop_length] at P2
    exact P2
theorem Dp {o:OE ρ}{wi:TI}{g:TG}{tb:TS}{r:Enc α}{κ:Type}{m:Rs (List α)}{body:γ->α->Rs (Ctl ρ γ)}{f:γ->Rs ρ}(J:Jn γ ι)(T:∀OO,Tgt K OO g r κ)(x0:ι)(g0:γ)(he:Walk K Er S OO σ wi r m)(h1:OO=J.oo x0)(h2:σ=J.ss x0)(h3:∀h,S.p h->(J.sc g0 x0).p h)
  (hb:∀g x a v,Sv Er ((T (J.oo x)).sc a v (J.sc g x)) (J.oo x) ((T (J.oo x)).set v (J.ss x)) tb (FCd K o J) (body g a))
  (hr:∀g x,Sv Er (J.sc g x) (J.oo x) (J.ss x) u (FTd K o) (f g)):Sv Er S OO σ (Vc (By wi g tb) u) (FTd K o) (m.bind λas=>(forC as g0 body).bind (Vi f)):=λH D w s P=>by
 refine he.ok w s ?_
 cases em:m with
 |bad=>rw[em] at P;exact P
 |err x=>rw[em] at P;exact λH' s'=>P H' (Xv.trans s')
 |ok as=>
  rw[em] at P
  have P:PZ Er (FTd K o D) (hid H OO) ((forC as g0 body).bind (Vi f)):=P
  intro It H' s' hgo hstop
  refine⟨λi mm σ' H2=>mm=as.length-i/\i<=as.length/\∃x gg,σ'=J.ss x/\W (J.oo x) H2/\Xn (hid H' OO) (hid H2 (J.oo x))/\(J.sc gg x).p (hid H2 (J.oo x))/\PZ Er (FTd K o D) (hid H2 (J.oo x)) ((forC (as.drop i) gg body).bind (Vi f)),⟨as.length,rfl,Nat.zero_le _,x0,g0,h2,?_,?_,?_,?_⟩,?_⟩
  ·rw[←h1];exact w.keep s'
  ·rw[←h1];exact Xn.refl _
  ·rw[←h1];exact h3 _ (S.mono _ _ (Xi s') s)
  ·rw[←h1,List.drop_zero];exact PZ.tr (FdOk.tr D) (Xi s') P
  ·rintro i mm σ' H2 ⟨rfl,hi,x,gg,rfl,w2,m2,sc2,P2⟩
   by_cases hlt:i<as.length
   ·right
    have ha:as[i]?=some as[i]:=by simp[hlt]
    obtain⟨h4,h5⟩:=hgo i _ ha (J.oo x) H2 w2 m2
    refine⟨h4,λσ3 H3=>∃ x gg,σ3=J.ss x/\W (J.oo x) H3/\Xn (hid H' OO) (hid H3 (J.oo x))/\(J.sc gg x).p (hid H3 (J.oo x))/\PZ Er (FTd K o D) (hid H3 (J.oo x)) ((forC (as.drop (i+1)) gg body).bind (Vi f)),λσ3 H3 q=>⟨as.length-(i+1),Nat.sub_lt_sub_left hlt (Nat.lt_succ_self i),rfl,hlt,q⟩,λy H3 hy=>?_⟩
    obtain⟨s3,r3⟩:=h5 y H3 hy
    have w3:=w2.keep s3
    have m3:=Xi (OO:=J.oo x) s3
    refine(T (J.oo x)).ok r3 ((J.sc gg x).mono _ _ m3 sc2) λv hv=>hb gg x as[i] v H3 _ w3 hv ?_
    rw[List.drop_eq_getElem_cons hlt] at P2
    have P3:PZ Er (FTd K o D) (hid H2 (J.oo x)) ((body gg as[i]).bind λc=>(match c with
     | .ret r=>Rs.ok (Ctl.ret r)
     | .nx g'=>forC (as.drop (i+1)) g' body).bind (Vi f)):=by rw[←Yd];exact P2
    cases eb:body gg as[i] with
    |bad=>rw[eb] at P3;exact P3
    |err x=>rw[eb] at P3;exact λH4 s4=>P3 H4 (m3.trans s4)
    |ok c=>
     rw[eb] at P3
     cases c with
     |ret r=>exact FdOk.tr (Fd:=FTd K o) D r _ _ m3 P3
     |nx g'=>exact λx' H4 w4 m4 sc4=>⟨x',g',rfl,w4,m2.trans (m3.trans m4),sc4,PZ.tr (FdOk.tr D) (m3.trans m4) P3⟩
   ·left
    have e:i=as.length:=Nat.le_antisymm hi (Nat.not_lt.mp hlt)
    subst e
    refine⟨hstop (J.oo x) H2 w2 m2,hr gg x H2 D w2 sc2 ?_⟩
    rw[List.drop_length] at P2
    exact P2
noncomputable def Js (as:List α)(f:α->Rs β):Rs (List β):=match as with
 | []=>.ok []
 |a::as=>(f a).bind λb=>(Js as f).bind λbs=>.ok (b::bs)
noncomputable def Uw (as:List α)(f:α->Rs β):Rs (List β):=chk (as.length<=sizeLine) (Js as f)
noncomputable def V2 (as:List α)(c:α->Rs Bool)(f:α->Rs β):Rs (List β):=match as with
 | []=>.ok []
 |a::as=>(c a).bind λb=>if b=true then(f a).bind λb=>(V2 as c f).bind λbs=>.ok (b::bs) else V2 as c f
noncomputable def CM (as:List α)(c:α->Rs Bool)(f:α->Rs β):Rs (List β):=chk (as.length<=sizeLine) (V2 as c f)
theorem PZ.chk {F:β->Hp->Prop}{H:Hp}{c:Prop}[Decidable c]{m:Rs β}(P:PZ Er F H (chk c m)):c/\PZ Er F H m:=by
 unfold L2.chk at P;split at P
 ·exact⟨by assumption,P⟩
 ·exact P.elim
theorem Cj {o:OE α}[z:MonoO o]{xs:List V}{as:List α}{Cs:List (List Xs)}{H H0:Hp}{Q:VK}(w:W (Cs.flatten::OO) H)(m0:Xn (hid H0 OO) (hid H (Cs.flatten::OO)))(s0:Xn H0 H)(pr:P3 (o K (hid H (Cs.flatten::OO))) xs as Cs)(P:FO K OO OO (oL o) Q as H0):∀p,H p=none->Q (.ref p) (upd H p (.lst xs)):=λp hp=>by
 have hn:=Vw (OO:=Cs.flatten::OO) hp (o:=.lst xs)
 have wn:=w.new hp (o:=.lst xs) rfl
 have pe:(((p,HO.lst xs)::Cs.flatten)::OO).flatten.Perm ([(p,HO.lst xs)]::Cs.flatten::OO).flatten:=by simp
 refine P (.ref p) ((p, .lst xs)::Cs.flatten) _ (s0.trans (XA hp _)) (wn.of pe) ?_ ?_
 ·rw[Ym pe];exact m0.trans hn
 ·rw[Ym pe]
  exact⟨p,xs,Cs,rfl,pr.imp λ_ _ _ h=>z.mono hn h,rfl⟩
theorem Jc {o:OE β}[z:MonoO o]{wi:TI}{g:TG}{te:TE}{r:Enc α}{κ:Type}{m:Rs (List α)}{f:α->Rs β}{n:Nat}{caps:List (Nat×Str)}(T:∀OO,Tgt K OO g r κ)(he:Walk K Er S OO σ wi r m)
  (hb:∀C a v,Ev K Er ((T (C::OO)).sc a v S) (C::OO) (C::OO) ((T (C::OO)).set v (Zl n caps σ)) te o (f a)):Ev K Er S OO OO σ (Um n caps wi g Jp te) (oL o) (m.bind λas=>Uw as f):=λH Q w s P=>by
 refine he.ok w s ?_
 cases em:m with
 |bad=>rw[em] at P;exact P
 |err x=>rw[em] at P;exact P
 |ok as=>
  rw[em] at P
  obtain⟨hsz,P⟩:=PZ.chk (show PZ Er _ H (chk (as.length<=sizeLine) (Js as f)) from P)
  intro It H' s' hgo hstop
  -- what is left: the YR of the items, then all
  refine⟨λi mm ys H2=>mm=as.length-i/\i<=as.length/\∃bs Cs,Xn H H2/\W (Cs.flatten::OO) H2/\Xn (hid H' OO) (hid H2 (Cs.flatten::OO))/\P3 (o K (hid H2 (Cs.flatten::OO))) ys bs Cs/\bs.length=i/\PZ Er (FO K OO OO (oL o) Q) H ((Js (as.drop i) f).bind λYR=>.ok (bs++YR)),
   ⟨as.length,rfl,Nat.zero_le _,[],[],s',(w.keep s').nil,by show Xn _ (hid H' ([]::OO));rw[Zf];exact Xn.refl _, .nil,rfl,?_⟩,?_⟩
  ·rw[List.drop_zero]
   revert P
   cases Js as f<;> exact λz=>z
  ·rintro i mm ys H2 ⟨rfl,hi,bs,Cs,s2,w2,m2,pr,hlen,P2⟩
   refine⟨by rw[pr.len.1,hlen];omega,?_⟩
   by_cases hlt:i<as.length
   ·right
    have ha:as[i]?=some as[i]:=by simp[hlt]
    obtain⟨h4,h5⟩:=hgo i _ ha (Cs.flatten::OO) H2 w2 m2
    refine⟨h4,λys' H3=>∃ bs Cs,Xn H H3/\W (Cs.flatten::OO) H3/\Xn (hid H' OO) (hid H3 (Cs.flatten::OO))/\P3 (o K (hid H3 (Cs.flatten::OO))) ys' bs Cs/\bs.length=i+1/\PZ Er (FO K OO OO (oL o) Q) H ((Js (as.drop (i+1)) f).bind λYR=>.ok (bs++YR)),λys' H3 q=>⟨as.length-(i+1),Nat.sub_lt_sub_left hlt (Nat.lt_succ_self i),rfl,hlt,q⟩,λy H3 hy=>?_⟩
    obtain⟨s3,r3⟩:=h5 y H3 hy
    have w3:=w2.keep s3
    have m3:=Xi (OO:=Cs.flatten::OO) s3
    have sS:S.p (hid H3 (Cs.flatten::OO)):=S.mono _ _ ((Xi s').trans (m2.trans m3)) s
    refine(T (Cs.flatten::OO)).ok r3 sS λv hv=>?_
    show Jp _ _ _
    refine CT ?_
    rw[List.drop_eq_getElem_cons hlt] at P2
    have P3':PZ Er (FO K OO OO (oL o) Q) H ((f as[i]).bind λb=>(Js (as.drop (i+1)) f).bind λYR=>.ok (bs++b::YR)):=by
     have:((f as[i]).bind λb=>(Js (as.drop (i+1)) f).bind λYR=>Rs.ok (bs++b::YR))=(Js (as[i]::as.drop (i+1)) f).bind λYR=>.ok (bs++YR):=by
      show _=((f as[i]).bind λb=>(Js (as.drop (i+1)) f).bind λbs=>Rs.ok (b::bs)).bind _
      rw[Yd];congr 1;funext b;rw[Yd];rfl
     rw[this];exact P2
    refine hb Cs.flatten as[i] v H3 _ w3 hv ?_
    cases eb:f as[i] with
    |bad=>rw[eb] at P3';exact P3'
    |err x=>rw[eb] at P3';exact λH4 s4=>P3' H4 (s2.trans (s3.trans s4))
    |ok b=>
     rw[eb] at P3'
     intro v' C' H4 s4 w4 m4 ho
     have pe:((Cs++[C']).flatten::OO).flatten.Perm (C'::Cs.flatten::OO).flatten:=by
      simp only[YF,List.flatten_cons]
      rw[List.append_assoc, ←List.append_assoc, ←List.append_assoc]
      exact List.perm_append_comm.append_right _
     refine⟨bs++[b],Cs++[C'],s2.trans (s3.trans s4),w4.of pe,?_,?_,by simp[hlen],?_⟩
     ·rw[Ym pe];exact m2.trans (m3.trans m4)
     ·rw[Ym pe];exact P3.snoc (pr.imp λ_ _ _ h=>z.mono (m3.trans m4) h) ho
     ·have P4:PZ Er (FO K OO OO (oL o) Q) H ((Js (as.drop (i+1)) f).bind λYR=> .ok (bs++b::YR)):=P3'
      simpa using P4
   ·left
    have e:i=as.length:=Nat.le_antisymm hi (Nat.not_lt.mp hlt)
    subst e
    refine⟨hstop (Cs.flatten::OO) H2 w2 m2,?_⟩
    rw[List.drop_length] at P2
    have P3':FO K OO OO (oL o) Q (bs++[]) H:=P2
    rw[List.append_nil] at P3'
    exact Cj (H0:=H) w2 ((Xi s').trans m2) s2 pr P3'
theorem Gp {o:OE β}[z:MonoO o]{wi:TI}{g:TG}{tt:TT}{te:TE}{r:Enc α}{κ:Type}{m:Rs (List α)}{c:α->Rs Bool}{f:α->Rs β}{n:Nat}{caps:List (Nat×Str)}(T:∀OO,Tgt K OO g r κ)(he:Walk K Er S OO σ wi r m)
  (hc:∀C a v,EvT Er ((T (C::OO)).sc a v S) (C::OO) ((T (C::OO)).set v (Zl n caps σ)) tt (c a))
  (hb:∀C a v,Ev K Er ((T (C::OO)).sc a v S) (C::OO) (C::OO) ((T (C::OO)).set v (Zl n caps σ)) te o (f a)):Ev K Er S OO OO σ (Um n caps wi g tt te) (oL o) (m.bind λas=>CM as c f):=λH Q w s P=>by
 refine he.ok w s ?_
 cases em:m with
 |bad=>rw[em] at P;exact P
 |err x=>rw[em] at P;exact P
 |ok as=>
  rw[em] at P
  obtain⟨hsz,P⟩:=PZ.chk (show PZ Er _ H (chk (as.length<=sizeLine) (V2 as c f)) from P)
  intro It H' s' hgo hstop
  refine⟨λi mm ys H2=>mm=as.length-i/\i<=as.length/\∃bs Cs,Xn H H2/\W (Cs.flatten::OO) H2/\Xn (hid H' OO) (hid H2 (Cs.flatten::OO))/\P3 (o K (hid H2 (Cs.flatten::OO))) ys bs Cs/\bs.length<=i/\PZ Er (FO K OO OO (oL o) Q) H ((V2 (as.drop i) c f).bind λYR=>.ok (bs++YR)),
   ⟨as.length,rfl,Nat.zero_le _,[],[],s',(w.keep s').nil,by show Xn _ (hid H' ([]::OO));rw[Zf];exact Xn.refl _, .nil,Nat.zero_le _,?_⟩,?_⟩
  ·rw[List.drop_zero]
   revert P
   cases V2 as c f<;> exact λz=>z
  ·rintro i mm ys H2 ⟨rfl,hi,bs,Cs,s2,w2,m2,pr,hlen,P2⟩
   refine⟨by rw[pr.len.1];omega,?_⟩
   by_cases hlt:i<as.length
   ·right
    have ha:as[i]?=some as[i]:=by simp[hlt]
    obtain⟨h4,h5⟩:=hgo i _ ha (Cs.flatten::OO) H2 w2 m2
    refine⟨h4,λys' H3=>∃ bs Cs,Xn H H3/\W (Cs.flatten::OO) H3/\Xn (hid H' OO) (hid H3 (Cs.flatten::OO))/\P3 (o K (hid H3 (Cs.flatten::OO))) ys' bs Cs/\bs.length<=i+1/\PZ Er (FO K OO OO (oL o) Q) H ((V2 (as.drop (i+1)) c f).bind λYR=>.ok (bs++YR)),λys' H3 q=>⟨as.length-(i+1),Nat.sub_lt_sub_left hlt (Nat.lt_succ_self i),rfl,hlt,q⟩,λy H3 hy=>?_⟩
    obtain⟨s3,r3⟩:=h5 y H3 hy
    have w3:=w2.keep s3
    have m3:=Xi (OO:=Cs.flatten::OO) s3
    have sS:S.p (hid H3 (Cs.flatten::OO)):=S.mono _ _ ((Xi s').trans (m2.trans m3)) s
    refine(T (Cs.flatten::OO)).ok r3 sS λv hv=>?_
    rw[List.drop_eq_getElem_cons hlt] at P2
    have P3':PZ Er (FO K OO OO (oL o) Q) H ((c as[i]).bind λb=>(if b=true then(f as[i]).bind λb=>(V2 (as.drop (i+1)) c f).bind λbs=>.ok (b::bs) else V2 (as.drop (i+1)) c f).bind λYR=>.ok (bs++YR)):=by
     rw[←Yd];exact P2
    refine hc Cs.flatten as[i] v H3 _ w3 hv ?_
    cases ec:c as[i] with
    |bad=>rw[ec] at P3';exact P3'
    |err x=>rw[ec] at P3';exact λH4 s4=>P3' H4 (s2.trans (s3.trans s4))
    |ok b=>
     rw[ec] at P3'
     intro H4 s4
     have w4:=w3.keep s4
     have m4:=Xi (OO:=Cs.flatten::OO) s4
     cases b with
     |false=>exact⟨bs,Cs,s2.trans (s3.trans s4),w4,m2.trans (m3.trans m4),pr.imp λ_ _ _ h=>z.mono (m3.trans m4) h,Nat.le_succ_of_le hlen,P3'⟩
     |true=>
      rw[if_pos rfl]
      have P4:PZ Er (FO K OO OO (oL o) Q) H ((f as[i]).bind λb=>(V2 (as.drop (i+1)) c f).bind λYR=>.ok (bs++b::YR)):=by
       have:((f as[i]).bind λb=>(V2 (as.drop (i+1)) c f).bind λYR=>Rs.ok (bs++b::YR))=((f as[i]).bind λb=>(V2 (as.drop (i+1)) c f).bind λbs=>Rs.ok (b::bs)).bind λYR=>.ok (bs++YR):=by
        rw[Yd];congr 1;funext b;rw[Yd];rfl
       rw[this];exact P3'
      refine hb Cs.flatten as[i] v H4 _ w4 (((T (Cs.flatten::OO)).sc as[i] v S).mono _ _ m4 hv) ?_
      cases eb:f as[i] with
      |bad=>rw[eb] at P4;exact P4
      |err x=>rw[eb] at P4;exact λH5 s5=>P4 H5 (s2.trans (s3.trans (s4.trans s5)))
      |ok b=>
       rw[eb] at P4
       intro v' C' H5 s5 w5 m5 ho
       have pe:((Cs++[C']).flatten::OO).flatten.Perm (C'::Cs.flatten::OO).flatten:=by
        simp only[YF,List.flatten_cons]
        rw[List.append_assoc, ←List.append_assoc, ←List.append_assoc]
        exact List.perm_append_comm.append_right _
       refine⟨bs++[b],Cs++[C'],s2.trans (s3.trans (s4.trans s5)),w5.of pe,?_,?_,by simpa using hlen,?_⟩
       ·rw[Ym pe];exact m2.trans (m3.trans (m4.trans m5))
       ·rw[Ym pe];exact P3.snoc (pr.imp λ_ _ _ h=>z.mono (m3.trans (m4.trans m5)) h) ho
       ·have P5:PZ Er (FO K OO OO (oL o) Q) H ((V2 (as.drop (i+1)) c f).bind λYR=> .ok (bs++b::YR)):=P4
        simpa using P5
   ·left
    have e:i=as.length:=Nat.le_antisymm hi (Nat.not_lt.mp hlt)
    subst e
    refine⟨hstop (Cs.flatten::OO) H2 w2 m2,?_⟩
    rw[List.drop_length] at P2
    have P3':FO K OO OO (oL o) Q (bs++[]) H:=P2
    rw[List.append_nil] at P3'
    exact Cj (H0:=H) w2 ((Xi s').trans m2) s2 pr P3'
end
section
variable {K:PySem.W.Frag}{Er:Exc->Hp->Prop}{S:SC}{OO OO' OO2:List (List Xs)}{σ:St}{α β γ ρ ι δ ε:Type}
variable {Fd:Ends->β->Hp->Prop}[fd:FdOk Fd]{u:TS}
theorem BP {C D C':List Xs}{H:Hp}{k:Nat}{p:Addr}{o:HO}(w:W (D::OO) H)(hk:OO[k]?=some C)(hp:p∈C.map (·.1))(hp':p∈C'.map (·.1))(hnd:(C'.map (·.1)).Nodup)(hin:∀b∈C'.map (·.1),b∈(C++D).map (·.1))(ht:∀c∈C',upd H p o c.1=some c.2)(hm:∀c∈C',CG c.2=true):
  W (OO.set k C') (upd H p o)/\Xn (hid H (D::OO)) (hid (upd H p o) (OO.set k C')):=by
 have hlt:k<OO.length:=by
  rcases Nat.lt_or_ge k OO.length with h |h
  ·exact h
  ·rw[List.getElem?_eq_none h] at hk;cases hk
 have h1:=XW hk
 have h2:=XW (OO:=OO.set k C') (k:=k) (C:=C') (by simp[hlt])
 rw[Vn] at h2
 have h3:(OO.set k C').flatten.Perm (C'++(OO.set k []).flatten):=by simpa using h2.symm
 have h4:(D::OO).flatten.Perm ((C++D)++(OO.set k []).flatten):=by
  rw[List.flatten_cons]
  refine((by simpa using h1.symm:OO.flatten.Perm (C++(OO.set k []).flatten)).append_left D).trans ?_
  rw[←List.append_assoc]
  exact List.perm_append_comm.append_right _
 have nd2:(((C++D)++(OO.set k []).flatten).map (·.1)).Nodup:=(h4.map _).nodup_iff.mp w.nd
 rw[List.map_append] at nd2
 obtain⟨n1,n2,n3⟩:=List.nodup_append.mp nd2
 refine⟨⟨λc hc=>?_,?_,λc hc=>?_⟩,λb v q=>?_⟩
 ·rcases List.mem_append.mp (h3.mem_iff.mp hc) with hc |hc
  ·exact ht c hc
  ·have hne:c.1≠p:=λe=>n3 p (hin p hp') c.1 (List.mem_map.mpr ⟨c,hc,rfl⟩) e.symm
   rw[Xr hne]
   exact w.tr c (h4.mem_iff.mpr (by simp[hc]))
 ·refine((h3.map _).nodup_iff).mpr ?_
  rw[List.map_append]
  exact List.nodup_append.mpr ⟨hnd,n2,λa ha b hb=>n3 a (hin a ha) b hb⟩
 ·rcases List.mem_append.mp (h3.mem_iff.mp hc) with hc |hc
  ·exact hm c hc
  ·exact w.mu c (h4.mem_iff.mpr (by simp[hc]))
 ·obtain⟨q1,q2⟩:=XS q
  have hbp:b≠p:=λe=>q2 (by
   rw[e]
   obtain⟨c,hc,rfl⟩:=List.mem_map.mp hp
   exact QQ (h4.mem_iff.mpr (by simp[hc])))
  refine YS (by rw[Xr hbp];exact q1) λz=>q2 ?_
  obtain⟨o',ho'⟩:=KK z
  rcases List.mem_append.mp (h3.mem_iff.mp ho') with hc |hc
  ·obtain⟨c,hc2,e⟩:=List.mem_map.mp (hin b (List.mem_map.mpr ⟨_,hc,rfl⟩))
   rw[←e]
   exact QQ (h4.mem_iff.mpr (List.mem_append_left _ hc2))
  ·exact QQ (c:=(b,o')) (h4.mem_iff.mpr (by simp[hc]))
theorem Ei {D:List Xs}{Cs Cs':List (List Xs)}{H:Hp}{k:Nat}{p:Addr}{xs xs':List V}(w:W (D::OO) H)(hk:OO[k]?=some ((p, .lst xs)::Cs.flatten))(hin:∀c∈Cs'.flatten,c∈Cs.flatten++D)(hnd:(Cs'.flatten.map (·.1)).Nodup):
  W (OO.set k ((p, .lst xs')::Cs'.flatten)) (upd H p (.lst xs'))/\Xn (hid H (D::OO)) (hid (upd H p (.lst xs')) (OO.set k ((p, .lst xs')::Cs'.flatten))):=by
 have h1:=XW hk
 have w3:W [((p,HO.lst xs)::(Cs.flatten++D))++(OO.set k []).flatten] H:=w.of (by
  simp only[List.flatten_cons,List.flatten_nil,List.append_nil]
  refine List.Perm.trans ?_ ((by simpa using h1:(((p,HO.lst xs)::Cs.flatten)++(OO.set k []).flatten).Perm OO.flatten).append_left D)
  rw[←List.append_assoc]
  refine List.Perm.append_right _ ?_
  exact(List.perm_append_comm (l₁:=(p,HO.lst xs)::Cs.flatten) (l₂:=D)))
 have nd:=w3.nd
 simp only[fl,List.flatten_cons,List.flatten_nil,List.append_nil,List.map_append,List.cons_append,List.map_cons] at nd
 have hne:∀c∈Cs'.flatten,c.1≠p:=λc hc e=>by
  refine(List.nodup_cons.mp nd).1 ?_
  rw[←e]
  refine List.mem_append_left _ ?_
  rw[←List.map_append]
  exact List.mem_map.mpr ⟨c,hin c hc,rfl⟩
 refine BP w hk List.mem_cons_self List.mem_cons_self ?_ ?_ ?_ ?_
 ·rw[List.map_cons,List.nodup_cons]
  refine⟨λz=>?_,hnd⟩
  obtain⟨c,hc,e⟩:=List.mem_map.mp z
  exact hne c hc e
 ·intro b hb
  rcases List.mem_cons.mp hb with rfl |hb
  ·exact List.mem_cons_self
  ·obtain⟨c,hc,rfl⟩:=List.mem_map.mp hb
   rw[List.cons_append,List.map_cons]
   exact List.mem_cons_of_mem _ (List.mem_map.mpr ⟨c,hin c hc,rfl⟩)
 ·intro c hc
  rcases List.mem_cons.mp hc with rfl |hc
  ·exact XU
  ·rw[Xr (hne c hc)]
   exact w3.tr c (by
    rw[List.flatten_cons,List.flatten_nil,List.append_nil]
    exact List.mem_append_left _ (List.mem_cons_of_mem _ (hin c hc)))
 ·intro c hc
  rcases List.mem_cons.mp hc with rfl |hc
  ·rfl
  ·exact w3.mu c (by
    rw[List.flatten_cons,List.flatten_nil,List.append_nil]
    exact List.mem_append_left _ (List.mem_cons_of_mem _ (hin c hc)))
theorem FH {o:OE α}{h:Hp}{p:Addr}{xs:List V}{as:List α}{R:List Xs}(q:oL o K h (.ref p) as ((p, .lst xs)::R)):∃Cs,P3 (o K h) xs as Cs/\R=Cs.flatten:=by
 obtain⟨p',xs',Cs,e,q,c⟩:=q
 injection c with c1 c2
 injection c1 with c3 c4
 injection c4 with c5
 subst c5
 exact⟨Cs,q,c2⟩
theorem Vg {D:List Xs}{Cs:List (List Xs)}{H:Hp}{k:Nat}{p:Addr}{xs:List V}(w:W (D::OO) H)(hk:OO[k]?=some ((p, .lst xs)::Cs.flatten)):((Cs.flatten++D).map (·.1)).Nodup:=by
 have h1:=XW hk
 have w3:W [((p,HO.lst xs)::(Cs.flatten++D))++(OO.set k []).flatten] H:=w.of (by
  simp only[List.flatten_cons,List.flatten_nil,List.append_nil]
  refine List.Perm.trans ?_ ((by simpa using h1:(((p,HO.lst xs)::Cs.flatten)++(OO.set k []).flatten).Perm OO.flatten).append_left D)
  rw[←List.append_assoc]
  refine List.Perm.append_right _ ?_
  exact(List.perm_append_comm (l₁:=(p,HO.lst xs)::Cs.flatten) (l₂:=D)))
 have nd:=w3.nd
 simp only[fl,List.flatten_cons,List.flatten_nil,List.append_nil,List.cons_append,List.map_cons] at nd
 have n2:=(List.nodup_cons.mp nd).2
 rw[List.map_append] at n2
 exact(List.nodup_append.mp n2).1
theorem GZ {ta:TE}{o:OE α}[MonoO o]{m:Rs (List α)}{f:List α->Rs β}{v:V}{as:List α}{C:List Xs}(i k:Nat)(hσ:σ[i]?=some (some v))(hk:OO[k]?=some C)(hk':OO'[k]?=some C)(h:∀x,S.p x->oL o K x v as C)(he:Ev K Er S OO OO' σ ta (oL o) m)
  (hr:∀bs C',Sv Er (S.addO K (oL o) v (as++bs) C') (OO'.set k C') σ u Fd (f (as++bs))):Sv Er S OO σ (Vc (Da (tBM K "list" KQ (K8 i) (XQ ta Zs))) u) Fd (m.bind λbs=>chk (as.length+bs.length<=sizeLine) (f (as++bs))):=λH D w s P=>by
 obtain⟨p,xs,Cs,e,q,c⟩:=h _ s
 subst c
 have hH:H p=some (.lst xs):=w.tr (p, .lst xs) (List.mem_flatten.mpr ⟨_,List.mem_of_getElem? hk,List.mem_cons_self⟩)
 refine⟨v,hσ,by rw[e];exact .inl ⟨rfl,_,SqL.of hH⟩,he.st w s P λbs y D' H' w' s' ho P'=>?_⟩
 obtain⟨hsz,P'⟩:=PZ.chk P'
 subst e
 obtain⟨Cs2,q2,c2⟩:=FH (h _ s')
 obtain⟨p',zs,Ds,e3,q3,c3⟩:=ho
 subst c3
 have hH':H' p=some (.lst xs):=w'.tr (p, .lst xs) (by rw[List.flatten_cons];exact List.mem_append_right _ (List.mem_flatten.mpr ⟨_,List.mem_of_getElem? hk',List.mem_cons_self⟩))
 have hH2:H' p'=some (.lst zs):=w'.tr (p', .lst zs) (by rw[List.flatten_cons];exact List.mem_append_left _ List.mem_cons_self)
 have cn:=Vg w' hk'
 obtain⟨w3,m3⟩:=Ei (xs':=xs++zs) (Cs':=Cs2++Ds) w' hk' (λc hc=>by
   rw[List.flatten_append,List.mem_append] at hc
   rcases hc with hc |hc
   ·rw[c2];exact List.mem_append_left _ hc
   ·exact List.mem_append_right _ (List.mem_cons_of_mem _ hc)) (by
   rw[List.flatten_append, ←c2]
   refine List.Nodup.sublist (List.Sublist.map _ ?_) cn
   exact List.Sublist.append (List.Sublist.refl _) (List.sublist_cons_self _ _))
 refine⟨p,p',xs,zs,rfl,by rw[e3],hH',hH2,by rw[q2.len.1,q3.len.1];exact hsz,?_⟩
 exact hr bs _ _ D w3 ⟨S.mono _ _ m3 s',⟨p,_,_,rfl,P3.imp (λ_ _ _ z=>MonoO.mono m3 z) (q2.app q3),rfl⟩⟩ (PZ.tr (fd.tr D) m3 P')
class TyE {α:Type}(r:Enc α)(n:outParam String):Prop where
 ty:∀{K:PySem.W.Frag}{H:Hp}{v:V}{a:α},r K H v a->TyOf K H v (.type n)
instance:TyE Xg "int":=⟨fun {K H v a} h=>by cases(show v= .int a from h);exact .int a⟩
instance:TyE Xx "bool":=⟨fun {K H v a} h=>by cases(show v= .bl a from h);exact .bl a⟩
instance:TyE Xm "str":=⟨fun {K H v a} h=>by cases(show v= .str a from h);exact .str a⟩
instance {r:Enc α}:TyE (rV r) "list":=⟨λr9=>by obtain⟨p,xs,e,q,_⟩:=r9;exact by subst e;exact .lst q⟩
instance {r:Enc α}:TyE (rPL r) "tuple":=⟨λr9=>by obtain⟨p,xs,e,q,_⟩:=r9;exact by subst e;exact .tup q⟩
instance {r:Enc α}{q:Enc γ}:TyE (rP2 r q) "tuple":=⟨λr9=>by obtain⟨p,x,y,e,q,_⟩:=r9;exact by subst e;exact .tup q⟩
instance {r:Enc α}{q:Enc γ}{t:Enc δ}:TyE (rP3 r q t) "tuple":=⟨λr9=>by obtain⟨p,x,y,z,e,q,_⟩:=r9;exact by subst e;exact .tup q⟩
theorem QI {te:TE}{r:Enc α}{n:String}[z:TyE r n]{m:Rs α}(t:String)(b:Bool)(hk:PySem.W.kitOne K (.type n) (.type t)=some b)(he:EvB K Er S OO σ te r m):
  EvB K Er S OO σ (tCB (λxs H Q=>∃ x n t b,xs=[x, .ty n]/\TyOf K H x t/\PySem.W.kitOne K t (.type n)=some b/\Q (.bl b) H) (XQ te (XQ (tC (.ty t)) Zs))) Xx (m.bind λ_=>.ok b):=λH Q w s P=>
 he.run w s FB.tr P λa x H1 s1 w1 q1 r1 P1=>⟨x,t, .type n,b,rfl,z.ty r1,hk,P1 _ H1 (Xn.refl _) rfl⟩
theorem DM {ta:TE}{ma:Rs Int}(ha:EvB K Er S OO σ ta Xg ma):EvB K Er S OO σ (tCB (λxs H Q=>∃ i:Int,xs=[.int i]/\Q (.int (if i<0 then-i else i)) H) (XQ ta Zs)) Xg (ma.bind λa=>.ok (a.natAbs:Int)):=λH Q w s P=>
 ha.run w s FB.tr P λa x H1 s1 w1 q1 r1 P1=>⟨a,by rw[show x= .int a from r1],P1 _ H1 (Xn.refl _) (by show V.int _=V.int _;congr 1;omega)⟩
end
section
variable {K:PySem.W.Frag}{Er:Exc->Hp->Prop}{S:SC}{OO OO' OO1 OO2:List (List Xs)}{σ:St}{α β γ ρ ι δ ε:Type}
variable {Fd:Ends->β->Hp->Prop}[fd:FdOk Fd]{u:TS}
theorem C6 (n:Nat)(H:Hp):W (List.replicate n []) H:=⟨λc hc=>(by rw[YH] at hc;cases hc),(by unfold fl;rw[YH];exact List.nodup_nil),λc hc=>(by rw[YH] at hc;cases hc)⟩
theorem Gy (n:Nat)(H:Hp):hid H (List.replicate n [])=H:=by funext b;unfold hid fl;rw[YH];simp
theorem G0 {o:OE ρ}[z:MonoO o]{Q:VK}{b:ρ}{H:Hp}(q:FF K o Q b H):∀v C OO' H',W (C::OO') H'->Xn H (hid H' (C::OO'))->o K (hid H' (C::OO')) v b C->Q v H':=λv C OO' H' w m ho=>by
 have hs:Xn (hid H' (C::OO')) (hid H' [C]):=QX (Xn.refl _) λb hb=>by
  rw[XZ]
  refine List.mem_append_left _ ?_
  simpa[fl] using hb
 exact q v C H' (w.sub (by simp)) (m.trans hs) (z.mono hs ho)
theorem ZW {o:OE ρ}[MonoO o]{t:TS}{m:Rs ρ}{Q:VK}{b:ρ}{H:Hp}{D:Ends}(n:Nat)(h:Sv (λ_ _=>False) S (List.replicate n []) σ t (FTd K o) m)(hs:S.p H)(hm:m= .ok b)(q:FF K o Q b H)(hD:D.rt=Q):t D σ H:=by
 refine h H D (C6 n H) (by rw[Gy];exact hs) ?_
 subst hm
 rw[Gy]
 intro v C OO' H' w mm ho
 rw[hD]
 exact G0 q v C OO' H' w mm ho
class InE {α:Type}[DecidableEq α](r:Enc α):Prop where
 fl:∀{K:PySem.W.Frag}{H:Hp}{x:V}{a:α},r K H x a->Qx x=true
 eq:∀{K:PySem.W.Frag}{H H':Hp}{x y:V}{a b:α},r K H x a->r K H' y b->eqV x y=decide (a=b)
instance:InE Xg:=⟨fun {K H x a} h=>by cases(show x= .int a from h);rfl,fun {K H H' x y a b} h h'=>by
 cases(show x= .int a from h);cases(show y= .int b from h');show(a==b)=_;rw[Ga]⟩
instance:InE Xm:=⟨fun {K H x a} h=>by cases(show x= .str a from h);rfl,fun {K H H' x y a b} h h'=>by
 cases(show x= .str a from h);cases(show y= .str b from h');show(a==b)=_
 rw[Bool.eq_iff_iff];simp⟩
theorem Qu [DecidableEq α]{r:Enc α}[z:InE r]{H H':Hp}{x:V}{a:α}(hx:r K H x a):∀{xs:List V}{as:List α},Paired (r K H') xs as->xs.all Qx=true/\inV x xs=decide (a∈as)
 |_,_, .nil=>⟨rfl,by simp[inV]⟩
 |_,_, .cons h t=>by
  obtain⟨h1,h2⟩:=Qu hx t
  refine⟨by rw[List.all_cons,h1,z.fl h];rfl,?_⟩
  unfold inV at h2⊢
  rw[List.any_cons,h2,z.eq h hx,Bool.eq_iff_iff,Bool.or_eq_true,decide_eq_true_eq,decide_eq_true_eq,decide_eq_true_eq,List.mem_cons]
  exact or_congr ⟨Eq.symm,Eq.symm⟩ Iff.rfl
theorem FW [DecidableEq α]{ta tb:TE}{r:Enc α}[z:InE r]{ma:Rs α}{mb:Rs (List α)}(ha:EvB K Er S OO σ ta r ma)(hb:EvB K Er S OO σ tb (rPL r) mb):EvB K Er S OO σ (tOp (rIn K false) ta tb) Xx (ma.bind λa=>mb.bind λas=>.ok (decide (a∈as))):=λH Q w s P=>
 ha.run w s FB.tr P λa x H1 s1 w1 q1 r1 P1=>hb.run w1 q1 FB.tr P1 λb y H2 s2 w2 q2 ⟨p,xs,e,q,pr⟩ P2=>by
  obtain⟨h1,h2⟩:=Qu r1 pr
  exact⟨p,xs,e, .inr (SqT.of q),z.fl r1,h1,P2 _ H2 (Xn.refl _) (by rw[h2];rfl)⟩
theorem VB [DecidableEq α]{ta tb:TE}{r:Enc α}[z:InE r]{ma:Rs α}{mb:Rs (List α)}(ha:EvB K Er S OO σ ta r ma)(hb:EvB K Er S OO σ tb (rPL r) mb):EvB K Er S OO σ (tOp (rIn K true) ta tb) Xx (ma.bind λa=>mb.bind λas=>.ok (!decide (a∈as))):=λH Q w s P=>
 ha.run w s FB.tr P λa x H1 s1 w1 q1 r1 P1=>hb.run w1 q1 FB.tr P1 λb y H2 s2 w2 q2 ⟨p,xs,e,q,pr⟩ P2=>by
  obtain⟨h1,h2⟩:=Qu r1 pr
  exact⟨p,xs,e, .inr (SqT.of q),z.fl r1,h1,P2 _ H2 (Xn.refl _) (by rw[h2];rfl)⟩
theorem FZ {α:Type}[DecidableEq α]{r r':Enc α}{d:Nat}(E:EqOk r d)(h:∀{K:PySem.W.Frag}{H:Hp}{v:V}{a:α},r' K H v a->r K H v a)(m:MonoE r'):EqOk r' d where
 uniq:=λI h1 h2=>E.uniq I (h h1) (h h2)
 eq:=λI rx ry h1 h2 hu=>E.eq I rx ry (h h1) (h h2) hu
 rc:=λI rx ry h1 h2 hu=>E.rc I rx ry (h h1) (h h2) hu
 ne:=λI rx ry h1 h2 hu=>E.ne I rx ry (h h1) (h h2) hu
 keep:=λs q=>m.mono s q
theorem BI {α β:Type}[DecidableEq α][DecidableEq β]{r:Enc α}{q:Enc β}{d:Nat}[m:MonoE r][n:MonoE q](E:EqOk r d)(F:EqOk q d):EqOk (rP2 r q) (d+1):=FZ (Dq E F) (λr9=>by obtain⟨a,x,y,e,q,p⟩:=r9;exact⟨a,x,y,e,SqT.of q,p⟩) inferInstance
end
section
variable {K:PySem.W.Frag}{Er:Exc->Hp->Prop}{S:SC}{OO OO' OO1 OO2:List (List Xs)}{σ:St}{α β γ ρ ι δ ε:Type}
variable {Fd:Ends->β->Hp->Prop}[fd:FdOk Fd]{u:TS}
theorem Br {H H':Hp}{C D:List Xs}{k:Nat}(w:W OO H)(hk:OO[k]?=some C)(s:Xn H H')(w':W (D::OO.set k []) H')(m:Xn (hid H (OO.set k [])) (hid H' (D::OO.set k []))):
  W (D::OO) H'/\Xn (hid H OO) (hid H' (D::OO))/\ZT (hid H' (D::OO.set k [])) (hid H' (D::OO)):=by
 have hp:=XW hk
 have wk:W (C::OO.set k []) H:=w.of hp
 have hC:∀c∈C,hid H (OO.set k []) c.1=some c.2:=λc hc=>YS (wk.cell c hc) (by
  have:=wk.nd
  rw[XZ] at this
  exact λhb=>(List.nodup_append.mp this).2.2 c.1 (List.mem_map.mpr ⟨c,hc,rfl⟩) c.1 hb rfl)
 have hC':∀c∈C,H' c.1=some c.2/\c.1∉fl (D::OO.set k []):=λc hc=>XS (m _ _ (hC c hc))
 have w2:W (C::D::OO.set k []) H':=by
  refine⟨λc hc=>?_,?_,λc hc=>?_⟩
  ·rw[List.flatten_cons,List.mem_append] at hc
   exact hc.elim (λhc=>(hC' c hc).1) λhc=>w'.tr c hc
  ·rw[XZ]
   refine List.nodup_append.mpr ⟨?_,w'.nd,λa ha b hb e=>?_⟩
   ·have:=wk.nd
    rw[XZ] at this
    exact(List.nodup_append.mp this).1
   ·obtain⟨c,hc,rfl⟩:=List.mem_map.mp ha
    subst e
    exact(hC' c hc).2 hb
  ·rw[List.flatten_cons,List.mem_append] at hc
   exact hc.elim (λhc=>wk.mu c (by simp[hc])) λhc=>w'.mu c hc
 have pe:(D::OO).flatten.Perm (C::D::OO.set k []).flatten:=by
  simp only[List.flatten_cons]
  refine List.Perm.trans (List.Perm.append_left D (by simpa using hp.symm:OO.flatten.Perm (C++(OO.set k []).flatten))) ?_
  rw[←List.append_assoc, ←List.append_assoc]
  exact List.perm_append_comm.append_right _
 have w3:=w2.of pe
 refine⟨w3,λb u q=>?_,λb u q i=>w3.i b u (XS q).1 i⟩
 obtain⟨q1,q2⟩:=XS q
 have q3:hid H (OO.set k []) b=some u:=YS q1 λz=>q2 ((Qg hp b).mp (by rw[XZ];simp[z]))
 obtain⟨q4,q5⟩:=XS (m _ _ q3)
 refine YS q4 λz=>?_
 have z2:=(Qg pe b).mp z
 rw[XZ,List.mem_append] at z2
 rcases z2 with z2 |z2
 ·exact q2 ((Qg hp b).mp (by rw[XZ];exact List.mem_append_left _ z2))
 ·exact q5 z2
theorem BG {r1:Enc γ}{o1:OE γ}[z:FrzC o1 r1][MonoE r1]{H:Hp}{v:V}{a:γ}{C:List Xs}{k:Nat}(w:W OO H)(hk:OO[k]?=some C)(s:S.p (hid H OO))(h:∀x,S.p x->o1 K x v a C):
  W (OO.set k []) H/\(S.add K r1 v a).p (hid H (OO.set k [])):=by
 have hp:=XW hk
 have wk:W (C::OO.set k []) H:=w.of hp
 have hs:Xn (hid H OO) (hid H (OO.set k [])):=by
  rw[←Ym hp]
  exact QX (Xn.refl _) λb hb=>by rw[XZ];simp[hb]
 refine⟨wk.tail,S.mono _ _ hs s,z.frz (h _ s) hs λc hc=>YS (wk.cell c hc) ?_⟩
 have:=wk.nd
 rw[XZ] at this
 exact λhb=>(List.nodup_append.mp this).2.2 c.1 (List.mem_map.mpr ⟨c,hc,rfl⟩) c.1 hb rfl
theorem FC {te:TE}{o:OE α}[y:FlatO o]{r1:Enc γ}{o1:OE γ}[FrzC o1 r1][MonoE r1]{m:Rs α}{v:V}{a:γ}{C:List Xs}(k:Nat)(hk:OO[k]?=some C)(h:∀x,S.p x->o1 K x v a C)(he:Ev K Er (S.add K r1 v a) (OO.set k []) (OO.set k []) σ te o m):Ev K Er S OO OO σ te o m:=λH Q w s P=>by
 obtain⟨w1,s1⟩:=BG (r1:=r1) w hk s h
 refine he H Q w1 s1 (P.imp λb _ hb v' D H' s' w' m' ho=>?_)
 obtain⟨w3,m3,i3⟩:=Br w hk s' w' m'
 exact hb v' D H' s' w3 m3 (y.flat i3 ho)
theorem Y5 (K:PySem.W.Frag)(T:String):PySem.W.kitOne K (.type T) (.type T)=some true:=by
 unfold PySem.W.kitOne
 rw[if_pos (beq_self_eq_true _)]
theorem ZO (K:PySem.W.Frag):PySem.W.kitOne K (.type "int") (.type "bool")=some false:=by
 first
  |rfl
  |decide+kernel
  | (unfold PySem.W.kitOne PySem.W.kitCls;rfl)
end
section
variable {K:PySem.W.Frag}{Er:Exc->Hp->Prop}{S:SC}{OO OO' OO1 OO2:List (List Xs)}{σ:St}{α β γ ρ ι δ ε:Type}
variable {Fd:Ends->β->Hp->Prop}[fd:FdOk Fd]{u:TS}
end
section
variable {K:PySem.W.Frag}{Er:Exc->Hp->Prop}{S:SC}{OO OO' OO1 OO2:List (List Xs)}{σ:St}{α β γ ρ ι δ ε:Type}
variable {α1 α2 α3 α4 α5:Type}
noncomputable def rP4 (r1:Enc α1)(r2:Enc α2)(r3:Enc α3)(r4:Enc α4):Enc (α1×α2×α3×α4):=λK H v p=>∃ a x1 x2 x3 x4,v= .ref a/\H a=some (.tup [x1,x2,x3,x4])/\r1 K H x1 p.1/\r2 K H x2 p.2.1/\r3 K H x3 p.2.2.1/\r4 K H x4 p.2.2.2
instance {r1:Enc α1}{r2:Enc α2}{r3:Enc α3}{r4:Enc α4}[m1:MonoE r1][m2:MonoE r2][m3:MonoE r3][m4:MonoE r4]:MonoE (rP4 r1 r2 r3 r4):=⟨λs r9=>by obtain⟨a,x1,x2,x3,x4,e,h,p1,p2,p3,p4⟩:=r9;exact⟨a,x1,x2,x3,x4,e,s _ _ h,m1.mono s p1,m2.mono s p2,m3.mono s p3,m4.mono s p4⟩⟩
instance {r1:Enc α1}{r2:Enc α2}{r3:Enc α3}{r4:Enc α4}[m1:FlatE r1][m2:FlatE r2][m3:FlatE r3][m4:FlatE r4]:FlatE (rP4 r1 r2 r3 r4):=⟨λs r9=>by obtain⟨a,x1,x2,x3,x4,e,h,p1,p2,p3,p4⟩:=r9;exact⟨a,x1,x2,x3,x4,e,s _ _ h rfl,m1.flat s p1,m2.flat s p2,m3.flat s p3,m4.flat s p4⟩⟩
instance {r1:Enc α1}{r2:Enc α2}{r3:Enc α3}{r4:Enc α4}:TyE (rP4 r1 r2 r3 r4) "tuple":=⟨λr9=>by obtain⟨p,x1,x2,x3,x4,e,q,_⟩:=r9;exact by subst e;exact .tup q⟩
noncomputable def rP5 (r1:Enc α1)(r2:Enc α2)(r3:Enc α3)(r4:Enc α4)(r5:Enc α5):Enc (α1×α2×α3×α4×α5):=λK H v p=>∃ a x1 x2 x3 x4 x5,v= .ref a/\H a=some (.tup [x1,x2,x3,x4,x5])/\r1 K H x1 p.1/\r2 K H x2 p.2.1/\r3 K H x3 p.2.2.1/\r4 K H x4 p.2.2.2.1/\r5 K H x5 p.2.2.2.2
instance {r1:Enc α1}{r2:Enc α2}{r3:Enc α3}{r4:Enc α4}{r5:Enc α5}[m1:MonoE r1][m2:MonoE r2][m3:MonoE r3][m4:MonoE r4][m5:MonoE r5]:MonoE (rP5 r1 r2 r3 r4 r5):=⟨λs r9=>by obtain⟨a,x1,x2,x3,x4,x5,e,h,p1,p2,p3,p4,p5⟩:=r9;exact⟨a,x1,x2,x3,x4,x5,e,s _ _ h,m1.mono s p1,m2.mono s p2,m3.mono s p3,m4.mono s p4,m5.mono s p5⟩⟩
instance {r1:Enc α1}{r2:Enc α2}{r3:Enc α3}{r4:Enc α4}{r5:Enc α5}[m1:FlatE r1][m2:FlatE r2][m3:FlatE r3][m4:FlatE r4][m5:FlatE r5]:FlatE (rP5 r1 r2 r3 r4 r5):=⟨λs r9=>by obtain⟨a,x1,x2,x3,x4,x5,e,h,p1,p2,p3,p4,p5⟩:=r9;exact⟨a,x1,x2,x3,x4,x5,e,s _ _ h rfl,m1.flat s p1,m2.flat s p2,m3.flat s p3,m4.flat s p4,m5.flat s p5⟩⟩
instance {r1:Enc α1}{r2:Enc α2}{r3:Enc α3}{r4:Enc α4}{r5:Enc α5}:TyE (rP5 r1 r2 r3 r4 r5) "tuple":=⟨λr9=>by obtain⟨p,x1,x2,x3,x4,x5,e,q,_⟩:=r9;exact by subst e;exact .tup q⟩
theorem Ui {te:TE}{tl th:TO}{r:Enc α}[z:MonoE r]{m:Rs (List α)}{ml mh:Rs (Option Int)}(he:EvB K Er S OO σ te (rPL r) m)(hl:EvP Er S OO σ tl ml)(hh:EvP Er S OO σ th mh):
  EvB K Er S OO σ (tSl (Bv K) te tl th) (rPL r) (m.bind λas=>ml.bind λlo=>mh.bind λhi=>chk (¬(HT.sIx as.length 0 lo=0/\HT.sIx as.length as.length hi=as.length)) (.ok (JV as lo hi))):=λH Q w s P=>
 he.run w s FB.tr P λas x H1 s1 w1 q1 ⟨p,xs,e,q,pr⟩ P1=>hl.run w1 q1 FB.tr P1 λlo H2 s2 w2 q2 P2=>hh.run w2 q2 FB.tr P2 λhi H3 s3 w3 q3 P3'=>by
  obtain⟨hn,P3'⟩:=PZ.chk P3'
  have pr2:=ZG (Paired.imp2 (G:=r K H3) (λ_ _ h=>z.mono (s2.trans s3) h) pr) lo hi
  exact⟨p,xs,e,SqT.of (s3 _ _ (s2 _ _ q)),by rw[Paired.len pr];exact hn,λa ha=>P3' _ _ (XA ha _) ⟨a,_,rfl,XU,Paired.imp2 (λ_ _ h=>z.mono (XA ha _) h) pr2⟩⟩
noncomputable def rDP {α:Type}(r:Enc α)(K:PySem.W.Frag)(H:Hp)(kv:Key×V)(kx:Int×α):Prop:=kv.1= .inl kx.1/\r K H kv.2 kx.2
noncomputable def rD {α:Type}(r:Enc α):Enc (List (Int×α)):=λK H v d=>∃ p kvs,v= .ref p/\H p=some (.dK kvs)/\Paired (rDP r K H) kvs d
noncomputable def oD {α:Type}(r:Enc α):OE (List (Int×α)):=λK h v d C=>∃ p kvs,v= .ref p/\Paired (rDP r K h) kvs d/\C=[(p, .dK kvs)]
instance {r:Enc α}[m:MonoE r]:MonoE (rD r):=⟨λs r9=>by obtain⟨p,kvs,e,q,pr⟩:=r9;exact⟨p,kvs,e,s _ _ q,Paired.imp2 (λ_ _ z=>⟨z.1,m.mono s z.2⟩) pr⟩⟩
instance {r:Enc α}[m:MonoE r]:MonoO (oD r):=⟨λs r9=>by obtain⟨p,kvs,e,pr,c⟩:=r9;exact⟨p,kvs,e,Paired.imp2 (λ_ _ z=>⟨z.1,m.mono s z.2⟩) pr,c⟩⟩
instance {r:Enc α}[m:FlatE r]:FlatO (oD r):=⟨λs r9=>by obtain⟨p,kvs,e,pr,c⟩:=r9;exact⟨p,kvs,e,Paired.imp2 (λ_ _ z=>⟨z.1,m.flat s z.2⟩) pr,c⟩⟩
instance {r:Enc α}[m:MonoE r]:FrzC (oD r) (rD r):=⟨λr9 s hc=>by obtain⟨p,kvs,e,pr,c⟩:=r9;exact⟨p,kvs,e,hc (p, .dK kvs) (by rw[c];simp),Paired.imp2 (λ_ _ z=>⟨z.1,m.mono s z.2⟩) pr⟩⟩
variable {Fd:Ends->β->Hp->Prop}[fd:FdOk Fd]{u:TS}
end
theorem Yh.ex {P:Program}{w:World}{H:Hp}{h:Heap}{a:Addr}{o:HO}(x:Yh P w H h a o):∃u,h.get? a=some u:=by
 cases o with
 |lst xs=>obtain⟨_,_,_,_,e⟩:=x;exact⟨_,e⟩
 |tup xs=>obtain⟨_,_,_,p⟩:=x;obtain⟨o,e,_⟩:=p;exact⟨_,e⟩
 |dK kvs=>obtain⟨_,_,_,_,o,_,_,e,_⟩:=x;exact⟨_,e⟩
 |dT kvs=>obtain⟨_,_,_,_,o,_,_,e,_⟩:=x;exact⟨_,e⟩
 |set S n=>obtain⟨o,_,_,_,e,_⟩:=x;exact⟨_,e⟩
 |ins C dx fs=>obtain⟨_,_,_,e,_⟩:=x;exact⟨_,e⟩
 |own y=>exact x
 |xd fs=>obtain⟨_,⟨_,_,_,e,_⟩,_⟩:=x;exact⟨_,e⟩
 |rng lo hi=>obtain⟨_,_,_,e⟩:=x;exact⟨_,e⟩
 |frz ob u=>exact⟨_,x.1⟩
 |tbl ps=>exact⟨_,x⟩
 |met f y=>exact⟨_,x⟩
 |ext φ=>exact x.2.1
theorem HOk.un0 {P:Program}{w:World}{H:Hp}{h:Heap}{a:Addr}(x:HOk P w H h)(e:h.get? a=none):H a=none:=by
 cases q:H a with
 |none=>rfl
 |some u=>obtain⟨v,hv⟩:=(x a u q).ex;rw[e] at hv;cases hv
structure Fl (h0 h:Heap)(H:Hp)(a T:Addr)(cls:Value):Prop where
 na:h0.get? a=none
 nT:h0.get? T=none
 fa:H a=none
 fT:H T=none
 ne:T≠a
 obj:∃oe vs oT ts a0,h.get? a=some oe/\oe.cls=cls/\vs[0]?=some a0/\oe.data= .fields vs/\vs[1]?=some (.ref T)/\h.get? T=some oT/\oT.data= .fields ts/\ts[3]?=some Value.none
noncomputable def Ku (h:Heap)(fs:List Addr)(a T:Addr):Heap:=K6 h (λb=>if b∈fs∨b=a∨b=T then some (.own 0) else none)
theorem Y4 {h:Heap}{fs:List Addr}{a T b:Addr}{o:Obj}(e:h.get? b=some o)(n1:b∉fs)(n2:b≠a)(n3:b≠T):(Ku h fs a T).get? b=some o:=
 V3 e (if_neg λz=>z.elim n1 λz=>z.elim n2 n3)
theorem QT {h:Heap}{fs:List Addr}{a T b:Addr}{o:Obj}(e:(Ku h fs a T).get? b=some o):h.get? b=some o/\b∉fs/\b≠a/\b≠T:=by
 obtain⟨h1,h2⟩:=UK e
 have h3:¬(b∈fs∨b=a∨b=T):=λz=>by
  have:=(if_pos z).symm.trans h2
  cases this
 exact⟨h1,λq=>h3 (.inl q),λq=>h3 (.inr (.inl q)),λq=>h3 (.inr (.inr q))⟩
theorem Yu {h:Heap}{fs:List Addr}{a T b:Addr}(n:b∈fs∨b=a∨b=T):(Ku h fs a T).get? b=none:=by
 cases q:(Ku h fs a T).get? b with
 |none=>rfl
 |some o=>
  obtain⟨_,h1,h2,h3⟩:=QT q
  exact(n.elim h1 λz=>z.elim h2 h3).elim
theorem Jo {h base B:Heap}:∀{l:List Env},h.FunFrames base l->(∀b∈frs l,B.get? b=none)->h.FunFrames B l
 | [],_,_=>trivial
 |env::r,⟨hk,⟨L,o,hf,hn,ho,hd⟩,hr⟩,n=>
  ⟨hk,⟨L,o,hf,n L (by unfold frs;rw[List.filterMap_cons,hf];exact List.mem_cons_self),ho,hd⟩,Jo hr λb hb=>n b (by unfold frs;rw[List.filterMap_cons,hf];exact List.mem_cons_of_mem _ hb)⟩
section
variable {P:Program}{w:World}{h0 h h' base:Heap}{H:Hp}{a T:Addr}{cls a0:Value}{l:List Env}
theorem Fl.fly (x:Fl h0 h H a T cls)(hl:h.FunFrames base l):∃a0,Heap.FlyingW (Ku h (frs l) a T) l a cls a0 h:=by
 obtain⟨oe,vs,oT,ts,a0,ha,hc,h0',hd,h1,hT,hdT,h3⟩:=x.obj
 exact⟨a0,λb o e=>(QT e).1,Yu (.inr (.inl rfl)),Jo hl λb hb=>Yu (.inl hb),oe,vs,T,oT,ts,ha,⟨hc,h0'⟩,hd,h1,Yu (.inr (.inr rfl)),x.ne,hT,hdT,h3⟩
theorem Un.traced (hl:h.FunFrames base l)(keep:∀b o,b∉frs l->b≠a->b≠T->h.get? b=some o->h'.get? b=some o)(up:h.UpToSlots h'):Un (frs l) [a,T] H H h h' where
 keep:=λb o e _ hb hx=>keep b o hb (λz=>hx (by simp[z])) (λz=>hx (by simp[z])) e
 slot:=λb o e _ hb _=>by
  obtain⟨_,o2,ho2,hd2⟩:=hl.mem hb
  rw[e] at ho2;cases ho2
  exact up b o e hd2
 free:=λb o e n _=>n
 there:=λb o e hx=>by
  by_cases hb:b∈frs l
  ·obtain⟨_,o2,ho2,hd2⟩:=hl.mem hb
   obtain⟨sl,q⟩:=up b o2 ho2 hd2
   exact⟨_,q⟩
  ·exact⟨o,keep b o hb (λz=>hx (by simp[z])) (λz=>hx (by simp[z])) e⟩
 tups:=λ_ _ q=>q
 frzs:=λ_ _ _ q=>q
 tbls:=λ_ ps q=>⟨#[],by simpa using q⟩
theorem HOk.traced (hok:HOk P w H h)(hfn:∀b∈frs l,H b=none)(fa:H a=none)(fT:H T=none)(keep:∀b o,b∉frs l->b≠a->b≠T->h.get? b=some o->h'.get? b=some o):HOk P w H h':=λb o e=>by
 refine(hok b o e).stay (λc u hc q=>?_) (λ_ q=>q) λ_ _ q=>q
 have hn:H c≠none:=by
  rcases hc with z |z
  ·rw[z,e];exact λy=>nomatch y
  ·rw[z];exact λy=>nomatch y
 exact keep c u (λz=>hn (hfn c z)) (λz=>hn (z▸fa)) (λz=>hn (z▸fT)) q
theorem Fl.after (x:Fl h0 h H a T cls)(hl:h.FunFrames base l)(hfn:∀b∈frs l,H b=none)(hok:HOk P w H h)(th:∀b o,h0.get? b=some o->∃o',h.get? b=some o')
  (st:(Ku h (frs l) a T).StaysIn h')(tr:h'.TracedW (Ku h (frs l) a T) a cls a0)(up:h.UpToSlots h'):∃T',Fl h0 h' H a T' cls/\HOk P w H h'/\Un (frs l) [a,T] H H h h':=by
 obtain⟨oe,vs,T',oT,ts,ha,⟨hc,h0'⟩,hd,h1,hnT,hne,hT,hdT,h3⟩:=tr
 have key:T'=T∨h.get? T'=none:=by
  cases q:h.get? T' with
  |none=>exact .inr rfl
  |some o=>
   by_cases hf:T'∈frs l
   ·obtain⟨_,o2,ho2,hd2⟩:=hl.mem hf
    obtain⟨sl,e2⟩:=up T' o2 ho2 hd2
    rw[hT] at e2;cases e2
    exact absurd hdT (hd2 ts)
   ·by_cases hz:T'=T
    ·exact .inl hz
    ·rw[Y4 q hf hne hz] at hnT;cases hnT
 have keep:∀b o,b∉frs l->b≠a->b≠T->h.get? b=some o->h'.get? b=some o:=λb o n1 n2 n3 e=>st b o (Y4 e n1 n2 n3)
 refine⟨T',⟨x.na,?_,x.fa,?_,hne,oe,vs,oT,ts,a0,ha,hc,h0',hd,h1,hT,hdT,h3⟩,hok.traced hfn x.fa x.fT keep,Un.traced hl keep up⟩
 ·rcases key with e |e
  ·rw[e];exact x.nT
  ·cases q:h0.get? T' with
   |none=>rfl
   |some o=>obtain⟨o',e'⟩:=th _ _ q;rw[e] at e';cases e'
 ·rcases key with e |e
  ·rw[e];exact x.fT
  ·exact hok.un0 e
end
section
variable {fs fs2 ex ex2:List Addr}{H0 H H':Hp}{h0 h h':Heap}
theorem Un.past (u:Un fs ex H0 H h0 h)(v:Un fs2 ex2 H H' h h')(n:∀b,b∈ex2->h0.get? b=none)(f:∀b,b∈fs2->b∈fs∨h0.get? b=none):Un fs ex H0 H' h0 h' where
 keep:=λb o e m hb hx=>v.keep b o (u.keep b o e m hb hx) (u.free b o e m hx) (λz=>(f b z).elim hb λy=>by rw[e] at y;cases y) λz=>by rw[n b z] at e;cases e
 slot:=λb o e m hb hx=>by
  obtain⟨sl,q⟩:=u.slot b o e m hb hx
  obtain⟨sl2,q2⟩:=v.any q (u.free b o e m hx) (λz=>by rw[n b z] at e;cases e)
  exact⟨sl2,q2⟩
 free:=λb o e m hx=>by
  obtain⟨o',q⟩:=u.there b o e hx
  exact v.free b o' q (u.free b o e m hx) (λz=>by rw[n b z] at e;cases e)
 there:=λb o e hx=>by
  obtain⟨o',q⟩:=u.there b o e hx
  exact v.there b o' q (λz=>by rw[n b z] at e;cases e)
 tups:=λb xs q=>v.tups b xs (u.tups b xs q)
 frzs:=λb o x q=>v.frzs b o x (u.frzs b o x q)
 tbls:=λb ps q=>by
  obtain⟨m1,e1⟩:=u.tbls b ps q
  obtain⟨m2,e2⟩:=v.tbls b _ e1
  exact⟨m1++m2,by rw[e2,Array.append_assoc]⟩
end
theorem Inv.past {X:Cx}{pins:List (Addr×Obj)}{σ:St}{H H':Hp}{s:Shared}{h':Heap}{ch:List Addr}(I:Inv X pins σ H s)(u:Un (frs X.stack) ch H H' s.heap h')(hok:HOk X.prog X.w H' h')
  (hch:∀b∈ch,X.s₀.heap.get? b=none/\b≠X.env.locals/\(∀x c,X.env.cells.lookup x=some c->c≠b)/\∀p∈X.pn++pins,p.1≠b):Inv X pins σ H' {s with heap:=h'}:=by
 have nL:X.s₀.heap.get? X.env.locals=none:=Heap.get?_none_of_le I.ok.above
 obtain⟨m,⟨o,es,ep,ho,hd,hr⟩,hl⟩:=id I.loc
 have lch:X.env.locals∉ch:=λz=>(hch _ z).2.1 rfl
 obtain⟨sl,hL⟩:=u.any ho I.free lch
 have cl:∀x c v,X.env.cells.lookup x=some c->s.heap.IsCell c v->h'.IsCell c v:=λx c v e ⟨oc,e1,e2⟩=>by
  obtain⟨sl,q⟩:=u.any e1 (I.freeC x c e) λz=>(hch c z).2.2.1 x c e rfl
  exact⟨_,q,e2⟩
 refine⟨I.ok,I.os,I.bare,I.base.past u (λb hb=>(hch b hb).1) λb hb=>?_,⟨m,⟨_,es,ep,hL,hd,hr⟩,λi x v e1 e2 e3=>?_⟩,λx c e=>?_,u.free _ o ho I.free lch,λx c e=>?_,λp hp=>?_,hok,I.len⟩
 ·rcases List.mem_cons.mp (I.stkSub b hb) with z |z
  ·exact .inr (z▸nL)
  ·exact .inl z
 ·obtain⟨u',r,q⟩:=hl i x v e1 e2 e3
  refine⟨u',r,?_⟩
  rcases q with q | ⟨k,c,e,z⟩
  ·exact .inl q
  ·exact .inr ⟨k,c,e,cl x c _ e z⟩
 ·obtain⟨v,z⟩:=I.cell x c e
  exact⟨v,cl x c v e z⟩
 ·obtain⟨v,oc,e1,_⟩:=I.cell x c e
  exact u.free c oc e1 (I.freeC x c e) λz=>(hch c z).2.2.1 x c e rfl
 ·obtain⟨e,n,ne,nf,d⟩:=I.pin p hp
  have nch:p.1∉ch:=λz=>(hch p.1 z).2.2.2 p hp rfl
  exact⟨u.keep p.1 p.2 e n (λz=>(List.mem_cons.mp (I.stkSub _ z)).elim ne nf) nch,u.free p.1 p.2 e n nch,ne,nf,d⟩
noncomputable def CXE (P:Program)(w:World):CXT:=λouter H s E e s'=>∃ a T C H',e= .ref a/\Fl s.heap s'.heap H' a T (.ref C)/\s'.os=s.os/\AllBare s'.gens/\Un (frs outer) [] H H' s.heap s'.heap/\HOk P w H' s'.heap/\E (.ref C) none H'
section
variable {P:Program}{w:World}{K:PySem.W.Frag}{mg:Str->Option Value}{base:Heap}{N:List Str}{qual:Str}{scope:Scope}{f:Addr}{cd:Value}{A:Around}{outer:List Env}{s0:Shared}{H0:Hp}{E:XK}
theorem UG:ZQ (CXE P w) (V7 (CXE P w) P w K mg base N qual scope f cd A outer s0 H0 E) E:=by
 intro pins σ H s e s' I ⟨a,T,C,H',he,x,os,bare,un,hok,q⟩
 subst he
 have I2:=I.call' os un hok bare (λb z=>nomatch z)
 have th:∀b o,s0.heap.get? b=some o->∃o',s.heap.get? b=some o':=λb o e=>I.base.there b o e (λz=>nomatch z)
 have nn:∀b,s.heap.get? b=none->s0.heap.get? b=none:=λb n=>by
  cases q:s0.heap.get? b with
  |none=>rfl
  |some o=>obtain⟨o',e⟩:=th b o q;rw[n] at e;cases e
 have x0:Fl s0.heap s'.heap H' a T (.ref C):=⟨nn _ x.na,nn _ x.nT,x.fa,x.fT,x.ne,x.obj⟩
 obtain⟨a0,fl⟩:=x0.fly I2.stack
 refine wpAny_leaves_onW I.ok.frames rfl fl λh' fl' up=>?_
 obtain⟨T',y1,y2,y3⟩:=x0.after I2.stack I2.stkFree hok (λb o e=>I2.base.there b o e (λz=>nomatch z)) fl'.1 fl'.2.2.2 up
 refine⟨a,T',C,H',rfl,y1,I2.os,bare,I2.base.past y3 (λb hb=>?_) λb hb=>?_,y2,q⟩
 ·rcases List.mem_cons.mp hb with z |z
  ·rw[z];exact x0.na
  ·rw[List.mem_singleton.mp z];exact x0.nT
 ·rcases List.mem_cons.mp (I2.stkSub b hb) with z |z
  ·exact .inr (z▸Heap.get?_none_of_le I.ok.above)
  ·exact .inl z
noncomputable def GY (X:Cx)(E:XK):Prop:=∀ (pins:List (Addr×Obj)) (σ:St) (H:Hp) (s:Shared) (C e:Addr) (vs:List Value) (h':Heap),Inv X pins σ H s->Heap.MadeExcOf s.heap h' e (.ref C) vs->E (.ref C) none H->X.xe (.ref e) {s with heap:=h'}
theorem Qi:GY (V7 (CXE P w) P w K mg base N qual scope f cd A outer s0 H0 E) E:=by
 intro pins σ H s C e vs h' I hx q
 have nn:∀b,s.heap.get? b=none->s0.heap.get? b=none:=λb n=>by
  cases q:s0.heap.get? b with
  |none=>rfl
  |some o=>obtain⟨o',e⟩:=I.base.there b o q (λz=>nomatch z);rw[n] at e;cases e
 refine wpAny_leaves_madeW (base:=Ku s.heap (frs (V7 (CXE P w) P w K mg base N qual scope f cd A outer s0 H0 E).stack) e e) (h:=s.heap) I.ok.frames rfl (λb o z=>(QT z).1) (Jo I.stack λb hb=>Yu (.inl hb)) hx λh2 t fl _ _ up=>?_
 obtain⟨st,_,_,oe,us,T,oT,ts,ha,⟨hc,h0'⟩,hd,h1,hnT,hne,hT,hdT,h3⟩:=fl
 have up2:s.heap.UpToSlots h2:=λb o z n=>up b o (hx.keeps b o z) n
 have hT0:s.heap.get? T=none:=by
  cases q:s.heap.get? T with
  |none=>rfl
  |some o=>
   by_cases hf:T∈frs (V7 (CXE P w) P w K mg base N qual scope f cd A outer s0 H0 E).stack
   ·obtain⟨_,o2,ho2,hd2⟩:=I.stack.mem hf
    obtain⟨sl,e2⟩:=up2 T o2 ho2 hd2
    rw[hT] at e2;cases e2
    exact absurd hdT (hd2 ts)
   ·rw[Y4 q hf hne hne] at hnT;cases hnT
 have keep:∀b o,b∉frs (V7 (CXE P w) P w K mg base N qual scope f cd A outer s0 H0 E).stack->b≠e->b≠T->s.heap.get? b=some o->h2.get? b=some o:=λb o n1 n2 _ z=>st b o (Y4 z n1 n2 n2)
 have fe:=I.hok.un0 hx.new
 have fT:=I.hok.un0 hT0
 refine⟨e,T,C,H,rfl,⟨nn _ hx.new,nn _ hT0,fe,fT,hne,oe,us,oT,ts,_,ha,hc,h0',hd,h1,hT,hdT,h3⟩,I.os,I.bare,I.base.past (Un.traced I.stack keep up2) (λb hb=>?_) λb hb=>?_,I.hok.traced I.stkFree fe fT keep,q⟩
 ·rcases List.mem_cons.mp hb with z |z
  ·rw[z];exact nn _ hx.new
  ·rw[List.mem_singleton.mp z];exact nn _ hT0
 ·rcases List.mem_cons.mp (I.stkSub b hb) with z |z
  ·exact .inr (z▸Heap.get?_none_of_le I.ok.above)
  ·exact .inl z
end
structure FnX (P:Program)(w:World)(K:PySem.W.Frag)(mg:Str->Option Value)(base:Heap)(k:Nat)(x:Str)(ps:List Str)(sp:Sp):Prop where
 ex:∃f fd,FnOk P w K mg base (CXE P w) k f fd ps sp/\JF K fd ps []/\PySem.W.keepIn K (.ref f)=true/\mg x=some (.ref f)
section
variable {X:Cx}{k j:Nat}{x:Str}{ps:List Str}{sp:Sp}{e:Expr}{es:List Expr}{t:TA}{p pos:Pos}{E:XK}
theorem Z2 (G:FnX X.prog X.w X.K X.mg X.base k x ps sp)(hr:Room j X.A)(hj:k<=j)(hx:ZQ (CXE X.prog X.w) X E)(ha:PA X (e::es) t)(hg:Gl X x:=by rfl)(hdb:(x==("__debug__":Str))=false:=by decide)
  (he:starEach (e::es) X.env=(false,eval e X.env)::starEach es X.env:=by rfl)(hpl:(backTo pos (starEach es X.env)).any (·.1)=false:=by rfl):
  PE X (.Call (.Name x p) (e::es) [] pos) (Q7 sp [] E t):=by
 obtain⟨f,fd,F,b,kp,m⟩:=G.ex
 exact KM F (hr.mono hj) hg m kp b .nil hx ha hdb he hpl
end
theorem Ju {P:Program}{w:World}{K:PySem.W.Frag}{mg:Str->Option Value}{base:Heap}{x:Str}{st:Stmt}{N ps:List Str}{k:Nat}{sp:Sp}(D:Def K mg x st ps)(S:FnScope N ps (Xk st))(len:∀vs H Q E,sp vs H Q E->vs.length=ps.length)
  (hbody:∀(f:Addr) (cdv:Value) (A:Around) (outer:List Env) (s:Shared) (H:Hp) (vs:List V) (Q:VK) (E:XK),Room k (A.deeper (envOfC x (Xk st) s.heap.objs.size f cdv))->sp vs H Q E->
   ∃t,PSs (V7 (CXE P w) P w K mg base N x (Xk st) f cdv A outer s H E) (XY st) t/\t {nx:=λ_ H'=>Q .non H',rt:=Q} (QB N vs) H):FnX P w K mg base (k+1) x ps sp:=by
 obtain⟨f,fd,F,b,m⟩:=D
 obtain⟨oc,od,kV,doc,pm,an,cdv,ct,osl,rfl,lk,hcd⟩:=F.ex
 exact⟨f,_,DS lk hcd S len λA outer s H vs Q E hr hsp=>hbody f cdv A outer s H vs Q E hr hsp,b,F.kp,m⟩
theorem KW {K:PySem.W.Frag}{h:Heap}{C:Addr}{bmB:List Value}{newId:String}(X:K.In h)(q:PySem.W.excIn K C bmB newId=true):
  ∃bm N nm q bs hdct sn sub ab col dd k0 k1 k2 k3 k5 mN,h.get? C=some (excClassObj nm q C N bs bm hdct sn sub ab col dd k0 k1 k2 k3 k5 newId)/\h.Ns N mN/\mN "__init__" =none/\OwnTail h bmB bm:=by
 unfold PySem.W.excIn at q
 split at q
 ·rename_i dd cd sl ho
  split at q
  ·rename_i C' bm k0 k1 k2 k3 n k5 hm hs
   simp only[Bool.and_eq_true,beq_iff_eq,Bool.not_eq_true'] at q
   obtain⟨⟨⟨⟨⟨q1,q2⟩,q3⟩,q4⟩,q5⟩,q6⟩:=q
   subst q1 q2
   obtain⟨nm,bs,mro,ns,qn,hd,sn,sub,ab,col,del⟩:=cd
   have e1:mro=_:=hm
   have e2:del=false:=q3
   subst e1 e2
   obtain⟨l⟩:=sl
   have e3:l=_:=hs
   subst e3
   exact⟨bm,ns,nm,qn,bs,hd,sn,sub,ab,col,dd,k0,k1,k2,k3,k5,_,X _ _ ho, .of_isNs (PySem.W.isNs_of_in X q5),PySem.W.nsMap_none_of_in X q5 q6,PySem.W.tail_of_in X q4⟩
  ·cases q
 ·cases q
abbrev vEr:List Value:=[.type "ValueError", .type "Exception", .type "BaseException", .type "object"]
noncomputable def Fp (C:Addr)(E:XK)(t:TA):TS:=λ_ σ H=>t σ H λvs H1=>vs.length<=9/\E (.ref C) none H1
section
variable {X:Cx}{E:XK}{C:Addr}{x:Str}{e:Expr}{es:List Expr}{t:TA}{np cpos pos:Pos}
theorem YQ (hR:GY X E)(hc:X.calm=true)(hq:PySem.W.excIn X.K C vEr "ValueError.__new__" =true)(hg:Gl X x)(hm:X.mg x=some (.ref C))(ha:PA X (e::es) t)(hdb:(x==("__debug__":Str))=false:=by decide)
  (he:starEach (e::es) X.env=(false,eval e X.env)::starEach es X.env:=by rfl)(hpl:(backTo cpos (starEach es X.env)).any (·.1)=false:=by rfl):
  PS X (.Raise (some (.Call (.Name x np) (e::es) [] cpos)) none pos) (Fp C E t):=by
 intro pins s σ H D I h
 obtain⟨bm,N,nm,q,bs,hdct,sn,sub,ab,col,dd,k0,k1,k2,k3,k5,mN,hC,hN,hni,T⟩:=KW I.ok.mod.kin hq
 refine wpAny_Raise_call_subU (C:=C) (nm:=nm) (q:=q) (N:=N) (bs:=bs) (bm:=bm) (hdct:=hdct) (sn:=sn) (sub:=sub) (ab:=ab) (col:=col) (dd:=dd) (k0:=k0) (k1:=k1) (k2:=k2) (k3:=k3) (k5:=k5) (bmB:=vEr)
  PySem.F.excBase_ValueError rfl PySem.F.excBase_ValueError (mN:=mN) (T.hasType rfl) (I.ok.hd hc) (by rw[he];show(false || (backTo cpos (starEach es X.env)).any (·.1))=false;rw[hpl];rfl) hni (ZH I hg hm ⟨rfl,?_⟩ hdb)
 have h2:=ha cpos pins s σ H _ I h
 rw[he] at h2⊢
 refine Calls.evalArgs_plain (wpAny_mono h2 (λus s2 ⟨vs,H1,I1,r,hl,hE⟩=>⟨rfl,?_,I1.bk _ _ hC,hN.keeps I1.bk,T.keeps I1.bk,λh' a hx=>hR pins σ H1 s2 C a us h' I1 hx hE⟩) λ_ _ y=>y)
 have:us.length<=9:=by rw[←r.length];exact hl
 exact Nat.le_trans this (by decide)
end
noncomputable abbrev TJ:=St->Hp->(Hp->Prop)->Prop
noncomputable def PJ (X:Cx)(es:List Expr)(n:Nat)(t:TJ):Prop:=
 ∀(pins:List (Addr×Obj)) (s:Shared) (σ:St) (H:Hp) (Q:Hp->Prop) (out:Str),Inv X pins σ H s->out.length<=n->t σ H Q->
  wpAny (model X.prog X.w) X.A (joinParts out (evalEach es X.env)) (λu s'=>∃ x tk H',u=Value.str x tk/\Inv X pins σ H' s'/\Q H') X.xe s
noncomputable def tJn:TJ:=λ_ H Q=>Q H
noncomputable def tJs (te:TE)(t:TJ):TJ:=λσ H Q=>te σ H λv H1=>∃ x:Str,v= .str x/\x.length<=1000/\t σ H1 Q
noncomputable def tF (t:TJ):TE:=λσ H Q=>t σ H λH1=>∀ x,Q (.str x) H1
section
variable {X:Cx}{e:Expr}{es:List Expr}{te:TE}{t:TJ}{n:Nat}{pos p:Pos}
theorem V0 (h:n<=sizeLine:=by exact Nat.le_of_ble_eq_true rfl):PJ X [] n tJn:=λpins s σ H Q out I hl q=>
 joinParts_nil ⟨_,_,H,rfl,I.tok _,q⟩ (Nat.le_trans hl h)
theorem QK (he:PE X e te)(hr:PJ X es (n+1000) t)(hz:n+1000<=sizeLine:=by exact Nat.le_of_ble_eq_true rfl):PJ X (e::es) n (tJs te t):=λpins s σ H Q out I hl q=>by
 refine joinParts_cons (wpAny_mono (he pins s σ H _ I q) (λu s1 r9=>?_) λ_ _ z=>z)
 obtain⟨v,H1,I1,r,x,hv,hx,q1⟩:=r9
 subst hv
 obtain⟨tk,hu⟩:∃tk,u=Value.str x tk:=r
 subst hu
 have hle:(out++x).length<=n+1000:=by rw[strLen_append];omega
 exact⟨Nat.le_trans hle hz,hr pins s1 σ H1 Q _ I1 hle q1⟩
theorem Bf {e₁:Expr}(h:PJ X (e::e₁::es) 0 t):PE X (.JoinedStr (e::e₁::es) pos) (tF t):=λpins s σ H Q I q=>
 JoinedStr_many (wpAny_mono (h pins s σ H _ Str.empty I (Nat.le_refl _) q) (λu s' r9=>by obtain⟨x,tk,H',hu,I',q'⟩:=r9;exact⟨.str x,H',I',⟨tk,hu⟩,q' x⟩) λ_ _ z=>z)
end
noncomputable abbrev Cx.alt (X:Cx)(pn:List (Addr×Obj))(xe:Value->Shared->Prop):Cx:={X with pn:=pn,xe:=xe}
noncomputable abbrev Cx.held (X:Cx)(a:Addr)(pn:List (Addr×Obj)):Cx:={X with A:=X.A.mark (some (.ref a)),calm:=false,pn:=pn,xe:=λ_ _=>False}
noncomputable def blank (n:Nat):St:=List.replicate n none
noncomputable def B6 (K:PySem.W.Frag)(n:Nat)(cc:Value)(i:Nat)(tb:XK->TS)(ts:Addr->Addr->TS):TS:=λD σ H=>
 tb (λc _ H'=>PySem.W.exmOne K c cc=some true/\∀a C,c= .ref C->H' a=none->ts a C {nx:=λ_=>D.nx (blank n),rt:=D.rt,bk:=λ_=>D.bk (blank n),ct:=λ_=>D.ct (blank n)} ((blank n).set i (some (.ref a))) H') D σ H
theorem Cx.Ok.alt {X:Cx}(ok:X.Ok)(pn:List (Addr×Obj))(xe:Value->Shared->Prop):(X.alt pn xe).Ok:=
 ⟨ok.mod,ok.kind,ok.glob,ok.blt,ok.above,ok.inj,ok.has,ok.cab,ok.hd,ok.frames,ok.stk,ok.exf,ok.bs,ok.bsz,ok.noex,ok.exfs,ok.funs,ok.frf⟩
theorem Cx.Ok.held {X:Cx}(ok:X.Ok)(a:Addr)(pn:List (Addr×Obj)):(X.held a pn).Ok:=
 ⟨ok.mod,ok.kind,ok.glob,ok.blt,ok.above,ok.inj,ok.has,ok.cab,(λz=>nomatch z),ok.frames,ok.stk,ok.exf,ok.bs,ok.bsz,ok.noex,ok.exfs,ok.funs,ok.frf⟩
section
variable {X:Cx}{pins:List (Addr×Obj)}{σ:St}{H:Hp}{s:Shared}{h':Heap}
theorem V4 {n i:Nat}{v:V}(h:(blank n)[i]?=some (some v)):False:=by
 unfold blank at h
 rw[List.getElem?_replicate] at h
 split at h<;> cases h
theorem JL {n:Nat}:(blank n).length=n:=by simp[blank]
theorem Inv.blank (I:Inv X pins σ H s):Inv X pins (blank X.N.length) H s:=I.weak (by rw[JL,I.len]) λi v h=>(V4 h).elim
theorem Inv.forget {m':Str->Option Value}{t':Nat}(I:Inv X pins σ H s)(hn:h'.Ns X.env.locals m')(sb:Heap.SameBut X.env.locals s.heap h'):Inv X pins (L2.blank X.N.length) H {s with heap:=h',toks:=t'}:=by
 have v:Un [] [X.env.locals] H H s.heap h':=⟨λb o e n _ hx=>(sb.2 b λz=>hx (by simp[z])).trans e,(λb o e n hb _=>nomatch hb),λb o e n _=>n,λb o e hx=>⟨o,(sb.2 b λz=>hx (by simp[z])).trans e⟩,λ_ _ q=>q,λ_ _ _ q=>q,λ_ ps q=>⟨#[],by simpa using q⟩⟩
 refine⟨I.ok,I.os,I.bare,I.base.past v (λb hb=>?_) (λb hb=>nomatch hb),⟨m',hn,λi x v _ e2=>(V4 e2).elim⟩,λx c e=>?_,I.free,I.freeC,λp hp=>?_,λb o e=>?_,JL⟩
 ·rw[List.mem_singleton.mp hb];exact Heap.get?_none_of_le I.ok.above
 ·obtain⟨v,o,e1,e2⟩:=I.cell x c e
  exact⟨v,o,(sb.2 c (I.cne x c e)).trans e1,e2⟩
 ·obtain⟨e,n,ne,nf,d⟩:=I.pin p hp
  exact⟨(sb.2 p.1 ne).trans e,n,ne,nf,d⟩
 ·refine(I.hok b o e).stay (λc u hc q=>(sb.2 c λz=>?_).trans q) (λ_ q=>q) λ_ _ q=>q
  have hf:=I.free
  rw[←z] at hf
  rcases hc with y |y
  ·rw[y,e] at hf;cases hf
  ·rw[y] at hf;cases hf
end
section
variable {X:Cx}{body suite:List Stmt}{b₀:Stmt}{cn n:Str}{Ch:Addr}{i:Nat}{tb:XK->TS}{ts:Addr->Addr->TS}{np hpos pos:Pos}
theorem CP (hst:X.stack=X.env::X.outer)(hex:X.ex=[])(hfr:X.env.frame=some X.env.locals)(hg:Gl X cn)(hm:X.mg cn=some (.ref Ch))(hN:X.N.Nodup)(hi:X.N[i]?=some n)(hlo:X.env.kindOf n=some .local)(hlo2:X.env.scope.names.lookup n=some .local)
  (hb:∀pn xe E,ZQ (CXE X.prog X.w) (X.alt pn xe) E->PSs (X.alt pn xe) body (tb E))
  (hs:∀pn a o C,(a,o)∈pn->o.cls= .ref C->PSs (X.held a pn) (b₀::suite) (ts a C))
  (hdb:(cn==("__debug__":Str))=false:=by decide):
  PS X (.Try body [.ExceptHandler (some (.Name cn np)) (some n) (b₀::suite) hpos] [] [] pos) (B6 X.K X.N.length (.ref Ch) i tb ts):=by
 intro pins s σ H D I h
 refine wpAny_Try_except ?_
 have I0:∀xe,Inv (X.alt (X.pn++pins) xe) [] σ H s:=λxe=>⟨I.ok.alt _ _,I.os,I.bare,I.base,I.loc,I.cell,I.free,I.freeC,λp hp=>I.pin p (by simpa using hp),I.hok,I.len⟩
 have back:∀{xe pins1 σ' H' s'},Inv (X.alt (X.pn++pins) xe) pins1 σ' H' s'->Inv X pins σ' H' s':=fun {xe pins1 σ' H' s'} J=>⟨I.ok,J.os,J.bare,J.base,J.loc,J.cell,J.free,J.freeC,λp hp=>J.pin p (List.mem_append_left _ hp),J.hok,J.len⟩
 refine wpAny_mono (hb (X.pn++pins) _ _ ?pp [] s σ H D (I0 _) h) (λf s1 hq=>?fin) λe s1 hq=>hq
 case fin=>
  cases f with
  |next=>obtain⟨σ',H',J,q⟩:=hq;exact wpAny_execs_nil ⟨σ',H',back J,q⟩
  |brk=>obtain⟨σ',H',J,q⟩:=hq;exact⟨σ',H',back J,q⟩
  |cont=>obtain⟨σ',H',J,q⟩:=hq;exact⟨σ',H',back J,q⟩
  |ret u=>obtain⟨v,σ',H',J,r,q⟩:=hq;exact⟨v,σ',H',back J,r,q⟩
 case pp=>
  intro pins1 σ1 H1 s1 e s' I1 ⟨a,T,C,H',he,x,os,bare,un,hok,hexm,hts⟩
  subst he
  have I2:=I1.call' os un hok bare (λb z=>nomatch z)
  have J:Inv X pins (blank X.N.length) H' s':=(back I2).blank
  have q1:∀b,s1.heap.get? b=none->X.s₀.heap.get? b=none/\b≠X.env.locals/\(∀y c,X.env.cells.lookup y=some c->c≠b)/\∀p∈X.pn++pins,p.1≠b:=λb nb=>by
   refine⟨?_,λz=>?_,λy c hy z=>?_,λp hp z=>?_⟩
   ·cases q:X.s₀.heap.get? b with
    |none=>rfl
    |some o=>obtain⟨o',e⟩:=I1.base.there b o q (by show b∉X.ex;rw[hex];simp);rw[nb] at e;cases e
   ·obtain⟨m,⟨o,es,ep,ho,_⟩,_⟩:=I1.loc
    have ho':s1.heap.get? X.env.locals=some o:=ho
    rw[←z,nb] at ho';cases ho'
   ·obtain⟨v,o,ho,_⟩:=I1.cell y c hy
    rw[z,nb] at ho;cases ho
   ·obtain⟨e,_⟩:=I1.pin p (List.mem_append_left _ hp)
    rw[z,nb] at e;cases e
  have hl:s'.heap.FunFrames X.base (X.env::X.outer):=hst▸J.stack
  have hfn:∀b∈frs (X.env::X.outer),H' b=none:=hst▸J.stkFree
  have hA:X.A.frames=some (X.env::X.outer):=hst▸I.ok.frames
  obtain⟨a0,fl⟩:=x.fly hl
  refine wpAny_looks_onW hA hfr fl λh2 hd2 up2=>?_
  refine wpAny_landsW hd2 λh3 fl3 up3=>?_
  obtain⟨T3,x3,hok3,un3⟩:=x.after hl hfn hok (λb o e=>un.there b o e (λz=>nomatch z)) fl3.1 fl3.2.2.2 (up2.trans up3)
  have ch:∀{U:Addr},s1.heap.get? U=none->∀b∈[a,U],X.s₀.heap.get? b=none/\b≠X.env.locals/\(∀y c,X.env.cells.lookup y=some c->c≠b)/\∀p∈X.pn++pins,p.1≠b:=fun {U} nU b hb=>by
   rcases List.mem_cons.mp hb with z |z
   ·rw[z];exact q1 a x.na
   ·rw[List.mem_singleton.mp z];exact q1 U nU
  have J3:Inv X pins (blank X.N.length) H' {s' with heap:=h3}:=J.past (by rw[hst];exact un3) hok3 (ch x.nT)
  have hh:∀{pn:List (Addr×Obj)}{s4:Shared},Inv X pins (blank X.N.length) H' s4->(∀p∈pn,p∈X.pn++pins∨(p.1=a/\s4.heap.get? a=some p.2/\∀v,p.2.data≠ .cell v))->Inv (X.held a pn) [] (blank X.N.length) H' s4:=fun {pn s4} J4 hp4=>by
   refine⟨I.ok.held _ _,J4.os,J4.bare,J4.base,J4.loc,J4.cell,J4.free,J4.freeC,λp hp=>?_,J4.hok,J4.len⟩
   rcases hp4 p (by simpa using hp) with z | ⟨z1,z2,z3⟩
   ·exact J4.pin p z
   ·refine⟨by rw[z1];exact z2,by rw[z1];exact x.fa,by rw[z1];exact(q1 a x.na).2.1,?_,z3⟩
    rw[z1]
    intro y
    obtain⟨_,o2,ho2,_⟩:=I.ok.funs.mem y
    rw[(q1 a x.na).1] at ho2
    cases ho2
  have hl3:h3.FunFrames X.base (X.env::X.outer):=hst▸J3.stack
  obtain⟨oe,vs,oT,tts,a1,ha3,hc3,_⟩:=id x3.obj
  have J3h:=hh (pn:=X.pn++pins) J3 λp hp=>.inl hp
  refine wpAny_handleBy_cons (codeAny_handlers_test (ZH J3h hg hm ?_ hdb)) (by intro q;cases q)
  have LT:PySem.W.Looks (model X.prog X.w) h3 (typeOf (.ref a)) (.ref C):=hc3▸(PySem.W.Looks.ld ha3).andThen .now
  refine PySem.W.exm_one J3.kIn LT hexm _ _ _ _ (λ_ _ e=>e) ?_
  refine codeAny_handlers_suite_as ?_
  obtain⟨a2,fl4⟩:=x3.fly hl3
  refine lands_againW fl4 λh5 fl5 up5=>?_
  obtain⟨T5,x5,hok5,un5⟩:=x3.after hl3 hfn hok3 (λb o e=>by
   obtain⟨o',e'⟩:=un.there b o e (λz=>nomatch z)
   by_cases z:b∈[a,T]
   ·rcases List.mem_cons.mp z with z |z
    ·rw[z,x.na] at e;cases e
    ·rw[List.mem_singleton.mp z,x.nT] at e;cases e
   ·exact un3.there b o' e' z) fl5.1 fl5.2.2.2 up5
  have J5:Inv X pins (blank X.N.length) H' {s' with heap:=h5}:=J3.past (by rw[hst];exact un5) hok5 (ch x3.nT)
  obtain⟨oe5,vs5,oT5,ts5,a5,ha5,hc5,_,hd5,_⟩:=id x5.obj
  have J5h:=hh (pn:=(a,oe5)::(X.pn++pins)) J5 λp hp=>by
   rcases List.mem_cons.mp hp with z |z
   ·rw[z];exact .inr ⟨rfl,ha5,λv q=>by rw[hd5] at q;cases q⟩
   ·exact .inl z
  refine Jk (X:=X.held a ((a,oe5)::(X.pn++pins))) (v:=.ref a) J5h hN hi (.inl hlo2) rfl (λs6 J6=>?_) (.inr hlo2)
  refine wpAny_mono (hs _ a oe5 C List.mem_cons_self hc5 [] s6 _ H' _ J6 (hts a C rfl x.fa)) (λf s7 hq=>?_) λ_ _ z=>z.elim
  have fin:∀{σ7 H7}{Q:Unit->Shared->Prop},Inv (X.held a ((a,oe5)::(X.pn++pins))) [] σ7 H7 s7->(∀s8,Inv X pins (blank X.N.length) H7 s8->Q () s8)->wpAny (model X.prog X.w) X.A (do bindName X.env n .none;unbindBehindTheSuite X.env n hpos) Q X.xe s7:=fun {σ7 H7 Q} J7 q=>by
   obtain⟨m,hn,_⟩:=id J7.loc
   refine wpAny_nameGoes hlo hn (by rw[I.ok.kind];rfl) λh8 m8 hn8 sb8=>q _ ?_
   have J8:=J7.forget (t':=s7.toks+1) hn8 sb8
   exact⟨I.ok,J8.os,J8.bare,J8.base,J8.loc,J8.cell,J8.free,J8.freeC,λp hp=>J8.pin p (by simpa using .inr (by simpa using hp)),J8.hok,J8.len⟩
  cases f with
  |next=>obtain⟨σ7,H7,J7,q⟩:=hq;exact fin J7 λs8 J8=>⟨_,H7,J8,q⟩
  |brk=>obtain⟨σ7,H7,J7,q⟩:=hq;exact fin J7 λs8 J8=>⟨_,H7,J8,q⟩
  |cont=>obtain⟨σ7,H7,J7,q⟩:=hq;exact fin J7 λs8 J8=>⟨_,H7,J8,q⟩
  |ret u=>obtain⟨v,σ7,H7,J7,r,q⟩:=hq;exact fin J7 λs8 J8=>⟨v,_,H7,J8,r,q⟩
end
section
variable {K:PySem.W.Frag}{Er:Exc->Hp->Prop}{S:SC}{OO OO' OO2:List (List Xs)}{σ:St}{α β γ ρ ι:Type}{α1 α2 α3 α4 α5 α6:Type}{mg:Str->Option Value}{E:XK}
noncomputable def ErE (mg:Str->Option Value)(E:XK):Exc->Hp->Prop:=λx H=>∀ C,mg x.cls=some (.ref C)->E (.ref C) none H
structure PX {β:Type}(Er:Exc->Hp->Prop)(F:β->Hp->Prop)(H:Hp)(m:Rs β):Prop where
 z:PZ Er F H m
noncomputable def FD (mg:Str->Option Value)(r1:Enc α1)(o:OE ρ)(f:α1->Rs ρ)(K:PySem.W.Frag):Sp:=λvs H Q E=>∃ v1 a1,vs=[v1]/\r1 K H v1 a1/\PX (ErE mg E) (FF K o Q) H (f a1)
noncomputable def BO (mg:Str->Option Value)(r1:Enc α1)(r2:Enc α2)(o:OE ρ)(f:α1->α2->Rs ρ)(K:PySem.W.Frag):Sp:=λvs H Q E=>∃ v1 v2 a1 a2,vs=[v1,v2]/\r1 K H v1 a1/\r2 K H v2 a2/\PX (ErE mg E) (FF K o Q) H (f a1 a2)
noncomputable def BL (mg:Str->Option Value)(r1:Enc α1)(r2:Enc α2)(r3:Enc α3)(o:OE ρ)(f:α1->α2->α3->Rs ρ)(K:PySem.W.Frag):Sp:=λvs H Q E=>∃ v1 v2 v3 a1 a2 a3,vs=[v1,v2,v3]/\r1 K H v1 a1/\r2 K H v2 a2/\r3 K H v3 a3/\PX (ErE mg E) (FF K o Q) H (f a1 a2 a3)
theorem UR {o:OE ρ}[FlatO o]{Q:VK}{H:Hp}{m:Rs ρ}(w:W OO H)(P:PZ Er (FO K OO OO o Q) H m):PZ Er (FF K o Q) H m:=by
 cases m with
 |bad=>exact P
 |err x=>exact P
 |ok b=>exact Ji w P
theorem Zn {ta:TE}{r1:Enc α1}{o:OE ρ}[FlatO o]{f:α1->Rs ρ}{ma:Rs α1}(ha:EvB K (ErE mg E) S OO σ ta r1 ma):Ev K (ErE mg E) S OO OO σ (Q7 (FD mg r1 o f K) [] E (XQ ta Zs)) o (ma.bind λa=>f a):=λH Q w s P=>
 ha.run w s FO.tr P λa x H1 s1 w1 q1 r1 P1=>⟨x,a,rfl,r1,⟨UR w1 P1⟩⟩
theorem Kb {ta tb:TE}{r1:Enc α1}{r2:Enc α2}[z1:MonoE r1]{o:OE ρ}[FlatO o]{f:α1->α2->Rs ρ}{ma:Rs α1}{mb:Rs α2}(ha:EvB K (ErE mg E) S OO σ ta r1 ma)(hb:EvB K (ErE mg E) S OO σ tb r2 mb):
  Ev K (ErE mg E) S OO OO σ (Q7 (BO mg r1 r2 o f K) [] E (XQ ta (XQ tb Zs))) o (ma.bind λa=>mb.bind λb=>f a b):=λH Q w s P=>
 ha.run w s FO.tr P λa x H1 s1 w1 q1 r1 P1=>hb.run w1 q1 FO.tr P1 λb y H2 s2 w2 q2 r2 P2=>⟨x,y,a,b,rfl,z1.mono s2 r1,r2,⟨UR w2 P2⟩⟩
theorem JJ {ta tb tc:TE}{r1:Enc α1}{r2:Enc α2}{r3:Enc α3}[z1:MonoE r1][z2:MonoE r2]{o:OE ρ}[FlatO o]{f:α1->α2->α3->Rs ρ}{ma:Rs α1}{mb:Rs α2}{mc:Rs α3}(ha:EvB K (ErE mg E) S OO σ ta r1 ma)(hb:EvB K (ErE mg E) S OO σ tb r2 mb)(hc:EvB K (ErE mg E) S OO σ tc r3 mc):
  Ev K (ErE mg E) S OO OO σ (Q7 (BL mg r1 r2 r3 o f K) [] E (XQ ta (XQ tb (XQ tc Zs)))) o (ma.bind λa=>mb.bind λb=>mc.bind λc=>f a b c):=λH Q w s P=>
 ha.run w s FO.tr P λa x H1 s1 w1 q1 r1 P1=>hb.run w1 q1 FO.tr P1 λb y H2 s2 w2 q2 r2 P2=>hc.run w2 q2 FO.tr P2 λc z H3 s3 w3 q3 r3 P3=>⟨x,y,z,a,b,c,rfl,z1.mono (s2.trans s3) r1,z2.mono s3 r2,r3,⟨UR w3 P3⟩⟩
theorem JQ {o:OE ρ}[MonoO o]{t:TS}{m:Rs ρ}{Q:VK}{H:Hp}{D:Ends}(n:Nat)(h:Sv (ErE mg E) S (List.replicate n []) σ t (FTd K o) m)(hs:S.p H)(PP:PX (ErE mg E) (FF K o Q) H m)(hD:D.rt=Q):t D σ H:=by
 have P:=PP.z
 refine h H D (C6 n H) (by rw[Gy];exact hs) ?_
 rw[Gy]
 cases m with
 |bad=>exact P
 |err x=>exact P
 |ok b=>
  intro v C OO' H' w mm ho
  rw[hD]
  exact G0 P v C OO' H' w mm ho
noncomputable def FJ (Q:Hp->Prop)(_:Unit)(H:Hp):Prop:=∀ H',Xn H H'->Q H'
theorem FJ.tr {Q:Hp->Prop}:∀(b:Unit) (H H':Hp),Xn H H'->FJ Q b H->FJ Q b H':=λ_ _ _ s h H2 s2=>h H2 (s.trans s2)
noncomputable def EvJ (Er:Exc->Hp->Prop)(S:SC)(OO:List (List Xs))(σ:St)(t:TJ)(m:Rs Unit):Prop:=∀ H Q,W OO H->S.p (hid H OO)->PZ Er (FJ Q) H m->t σ H Q
theorem Jj:EvJ Er S OO σ tJn (.ok ()):=λH Q _ _ P=>P H (Xn.refl _)
theorem Zx {x:Str}{t:TJ}{m:Rs Unit}(h:EvJ Er S OO σ t m)(hx:x.length<=1000:=by first |decide |decide+kernel):EvJ Er S OO σ (tJs (tC (.str x)) t) m:=λH Q w s P=>⟨x,rfl,hx,h H Q w s P⟩
noncomputable def EvX (Er:Exc->Hp->Prop)(S:SC)(OO:List (List Xs))(σ:St)(t:TE)(m:Rs Unit):Prop:=∀ H (Q:VK),W OO H->S.p (hid H OO)->PZ Er (FJ λH=>∀ v,Q v H) H m->t σ H Q
theorem GP {t:TJ}{m:Rs Unit}(h:EvJ Er S OO σ t m):EvX Er S OO σ (tF t) m:=λH Q w s P=>h H _ w s (by
 cases m with
 |bad=>exact P
 |err x=>exact P
 |ok b=>exact λH' s' x=>P H' s' _)
theorem Vt {x:Str}:EvX Er S OO σ (tC (.str x)) (.ok ()):=λH Q _ _ P=>P H (Xn.refl _) _
variable {Fd:Ends->β->Hp->Prop}[fd:FdOk Fd]{u:TS}
theorem YK {te:TE}{m:Rs Unit}{C:Addr}{n:Str}(hm:mg n=some (.ref C))(h:EvX (ErE mg E) S OO σ te m):Sv (ErE mg E) S OO σ (Vc (Fp C E (XQ te Zs)) u) Fd (m.bind λ_=>.err ⟨n, .non⟩):=λH D w s P=>
 h H _ w s (by
  cases m with
  |bad=>exact P
  |err x=>exact λH' s'=>P H' (Xv.trans s')
  |ok b=>exact λH' s' v=>⟨Nat.le_of_ble_eq_true rfl,P H' (Xv.trans s') C hm⟩)
noncomputable def Za (n d:Str):Bool:=n==d || d==("PlaitError":Str)
noncomputable def erA (K:PySem.W.Frag)(C:Addr):Bool:=PySem.W.findIn K (.ref C) "__getattribute__" ==some (some (.builtin "BaseException.__getattribute__"))&&PySem.W.findIn K (.ref C) "__getattr__" ==some none&&PySem.W.findIn K (.ref C) "__class__" ==some (some (.builtin "object.__class__"))&&
 PySem.W.specialIn K (.builtin "object.__class__") "__get__" ==some (some (.builtin "getset_descriptor.__get__"))&&PySem.W.takesIn K (.builtin "object.__class__")==some true&&PySem.W.mroIn K C (.type "object")==some true&&(PySem.W.clsIn K C).isSome&&PySem.W.mroIn K C (.type "BaseException")==some true
noncomputable def Qs (n:Str):Bool:=!(n==("NotADrawing":Str))&&!(n==("NoChain":Str))
noncomputable def Dg (K:PySem.W.Frag)(cs:List (Str×Addr)):Bool:=cs.all λp=>(!(Qs p.1) || PySem.W.excIn K p.2 vEr "ValueError.__new__")&&erA K p.2&&PySem.W.kitOne K (.ref p.2) (.type "ValueError")==some true&&
 cs.all λq=>PySem.W.kitOne K (.ref p.2) (.ref q.2)==some (Za p.1 q.1)&&PySem.W.exmOne K (.ref p.2) (.ref q.2)==some (Za p.1 q.1)
structure Ecs (ns:List Str)(K:PySem.W.Frag)(mg:Str->Option Value):Prop where
 adr:∀n∈ns,∃C,mg n=some (.ref C)/\(Qs n=true->PySem.W.excIn K C vEr "ValueError.__new__" =true)
 att:∀n∈ns,∀C,mg n=some (.ref C)->erA K C=true
 val:∀n∈ns,∀C,mg n=some (.ref C)->PySem.W.kitOne K (.ref C) (.type "ValueError")=some true
 kit:∀n∈ns,∀d∈ns,∀C D,mg n=some (.ref C)->mg d=some (.ref D)->PySem.W.kitOne K (.ref C) (.ref D)=some (Za n d)
 exm:∀n∈ns,∀d∈ns,∀C D,mg n=some (.ref C)->mg d=some (.ref D)->PySem.W.exmOne K (.ref C) (.ref D)=some (Za n d)
theorem Co {cs:List (Str×Addr)}(h:Dg K cs=true)(hn:∀p∈cs,mg p.1=some (.ref p.2)):Ecs (cs.map (·.1)) K mg:=by
 have key:∀n∈cs.map (·.1),∀C,mg n=some (.ref C)->(n,C)∈cs:=λn hm C hC=>by
  obtain⟨⟨n',C'⟩,hp,rfl⟩:=List.mem_map.mp hm
  have:=hn _ hp
  rw[hC] at this
  cases this
  exact hp
 have hp:∀p∈cs,_:=List.all_eq_true.mp h
 simp only[Bool.and_eq_true,List.all_eq_true,beq_iff_eq,Bool.or_eq_true] at hp
 refine⟨λn hm=>?_,λn hm C hC=>(hp _ (key n hm C hC)).1.1.2,λn hm C hC=>(hp _ (key n hm C hC)).1.2,λn hm d hd C D hC hD=>((hp _ (key n hm C hC)).2 _ (key d hd D hD)).1,λn hm d hd C D hC hD=>((hp _ (key n hm C hC)).2 _ (key d hd D hD)).2⟩
 obtain⟨⟨n',C'⟩,hq,rfl⟩:=List.mem_map.mp hm
 exact⟨C',hn _ hq,λe=>(hp _ hq).1.1.1.resolve_left (by rw[e];exact Bool.false_ne_true)⟩
noncomputable def cau (ns:List Str)(n d:Str):Bool:=decide (n∈ns)&&Za n d
noncomputable def Rs.tryC (m:Rs α)(f:α->Rs β)(g:Exc->Rs β):Rs β:=match m with
 | .bad=>.bad
 | .err x=>g x
 | .ok a=>f a
theorem FE {c:Prop}[Decidable c]{m:Rs β}{F:β->Hp->Prop}{H:Hp}(P:PZ Er F H (chk c m)):c/\PZ Er F H m:=by
 by_cases hc:c
 ·rw[Xl hc] at P;exact⟨hc,P⟩
 ·unfold chk at P
  rw[if_neg hc] at P
  exact P.elim
section
variable {te:XK->TE}{m:Rs α}{ts:Addr->Addr->TS}{N i:Nat}{Ch:Addr}{o:OE ρ}{g:Exc->Rs ρ}{ns:List Str}{d:Str}
theorem F1 {x:Exc}{H:Hp}{D D':Ends}(hD:D'.rt=D.rt)(Y:Ecs ns K mg)(hd:d∈ns)(hm:mg d=some (.ref Ch))(hs:∀x,x.cls∈ns->∀C a,mg x.cls=some (.ref C)->Sv Er S OO ((blank N).set i (some (.ref a))) (ts a C) (FTd K o) (g x))(w:W OO H)(s:S.p (hid H OO))
  (P:PZ Er (FTd K o D) (hid H OO) (chk (cau ns x.cls d=true) (g x))):∀H',Xn H H'->∀C,mg x.cls=some (.ref C)->PySem.W.exmOne K (.ref C) (.ref Ch)=some true/\∀a C',Value.ref C= .ref C'->H' a=none->ts a C' D' ((blank N).set i (some (.ref a))) H':=λH' s' C hC=>by
 obtain⟨hc,P2⟩:=FE P
 unfold cau at hc
 rw[Bool.and_eq_true,decide_eq_true_eq] at hc
 refine⟨by rw[Y.exm _ hc.1 d hd C Ch hC hm,hc.2],λa C' hC' _=>hs x hc.1 C' a (hC'.symm▸hC) H' D' (w.keep s') (S.mono _ _ (Xi s') s) ?_⟩
 have P3:=PZ.tr (FdOk.tr (Fd:=FTd K o) D) (Xi s') P2
 unfold FTd at P3⊢
 rw[hD]
 exact P3
theorem DC {r:Enc α}[MonoE r]{f:α->Rs ρ}(Y:Ecs ns K mg)(hd:d∈ns)(hm:mg d=some (.ref Ch))(j:Nat)(he:∀E,EvS K (ErE mg E) S OO σ (te E) r m)
  (hr:∀a v,Sv Er (S.add K r v a) OO (σ.set j (some v)) u (FTd K o) (f a))
  (hs:∀x,x.cls∈ns->∀C a,mg x.cls=some (.ref C)->Sv Er S OO ((blank N).set i (some (.ref a))) (ts a C) (FTd K o) (g x)):
  Sv Er S OO σ (Vc (B6 K N (.ref Ch) i (λE=>Vc (G1 (te E) (Y8 j)) Kt) ts) u) (FTd K o) (m.tryC f (λx=>chk (cau ns x.cls d=true) (g x))):=λH D w s P=>
 he _ H _ w s (by
  cases m with
  |bad=>exact P
  |err x=>exact F1 rfl Y hd hm hs w s P
  |ok a=>exact λv H' s' ho=>hr a v H' D (w.keep s') ⟨S.mono _ _ (Xi s') s,ho⟩ (PZ.tr (FdOk.tr (Fd:=FTd K o) D) (Xi s') P))
end
noncomputable def vOf:V->Value
 | .ref a=>.ref a
 | .ty n=>.type n
 |_=>.none
noncomputable def BS (K:PySem.W.Frag)(c:Value)(a:Addr)(xs:List V)(H:Hp)(Q:VK):Prop:=∃ d b C,c= .ref C/\erA K C=true/\xs=[.ref a,d]/\((∃D,d= .ref D)∨∃n,d= .ty n)/\PySem.W.kitOne K c (vOf d)=some b/\Q (.bl b) H
theorem Kw {a C D:Addr}{b:Bool}(i:Nat)(hσ:σ[i]?=some (some (.ref a)))(hA:erA K C=true)(hk:PySem.W.kitOne K (.ref C) (.ref D)=some b):EvB K Er S OO σ (tCB (BS K (.ref C) a) (XQ (K8 i) (XQ (tC (.ref D)) Zs))) Xx (.ok b):=λH Q w s P=>
 ⟨_,hσ,_,b,C,rfl,hA,rfl, .inl ⟨D,rfl⟩,hk,P _ H (Xn.refl _) rfl⟩
end
end L2
namespace L2
open PySem PySem.Spec PyProof.Rows PySem.W PySem.Builtin PySem.Builtin.ObjectAttr PySem.Builtin.Getset_descriptor
section
variable {prog:Program}{w:World}{A:Around}{E:Value->Shared->Prop}{K:Frag}{x D:Addr}{s:Shared}
theorem Gu {M:Model}{h:Heap}(X:K.In h)(cl:findIn K (.ref D) "__class__" =some (some (.builtin "object.__class__")))(sg:specialIn K (.builtin "object.__class__") "__get__" =some (some (.builtin "getset_descriptor.__get__")))(tk:takesIn K (.builtin "object.__class__")=some true):
  Looks M h (Builtin.ObjectAttr.find (.ref x) (.ref D) "__class__") (.bind (.builtin "getset_descriptor.__get__") (.builtin "object.__class__")):=by
 have L3:=looks_takesIn (M:=M) X tk
 exact(looks_findIn (M:=M) X cl).andThen ((looks_specialIn X sg).andThen ((show Looks M h (Builtin.ObjectAttr.dataDescriptor? (some (.builtin "object.__class__")) (some (.builtin "getset_descriptor.__get__"))) (some (.builtin "getset_descriptor.__get__", .builtin "object.__class__")) from L3.andThen .now).andThen (Looks.tag .now)))
theorem Db {R:Result->Shared->Prop}{tp:Value}(X:K.In s.heap)(L0:Looks (model prog w) s.heap (typeOf (.ref x)) (.ref D))(hm:mroIn K D (.type "object")=some true)
  (h:R (.ok (.ret (.ref D))) s):codeAny (model prog w) A (.call (.builtin "getset_descriptor.__get__") ⟨[.builtin "object.__class__", .ref x,tp],[]⟩) R s:=by
 obtain⟨hh,g,dr,t,os⟩:=s
 have L1:=looks_mroIn (M:=model prog w) X hm
 refine codeAny_call_builtin KF.slot_gs.plain KF.entry_gs (KF.slot_gs.check _ _ _ _ _ _ _ _ KF.type_class (KF.args_gs _ _ _) ?_)
 unfold Builtin.«getset_descriptor.__get__» descrGet
 rw[dga_obj]
 refine wpAny_bind (wpAny_pure ?_)
 unfold descrGetter descrCheckInstance descrNameAndClass isInstance
 simp only[KF.owner_class]
 repeat lk
 refine⟨Code.quiet_builtin _ (by decide+kernel),codeAny_builtin KF.entry_class ?_⟩
 unfold Builtin.«object.__class__» shownTypeOf
 repeat lk
 exact h
theorem Kl {Q:Option Value->Shared->Prop}(X:K.In s.heap)(hx:∃o,s.heap.get? x=some o/\o.cls= .ref D)(hA:erA K D=true)(h:Q (some (.ref D)) {s with toks:=s.toks+1}):wpAny (model prog w) A (getAttr? (.ref x) "__class__") Q E s:=by
 obtain⟨hh,g,d,t,os⟩:=s
 obtain⟨o,ho,hc⟩:=hx
 unfold erA at hA
 simp only[Bool.and_eq_true,beq_iff_eq] at hA
 obtain⟨⟨⟨⟨⟨⟨⟨ga,gh⟩,cl⟩,sg⟩,tk⟩,mo⟩,ci⟩,mb⟩:=hA
 have L0:Looks (model prog w) hh (typeOf (.ref x)) (.ref D):=hc▸(Looks.ld ho).andThen .now
 have L1:=looks_findIn (M:=model prog w) X ga
 have L2:=looks_findIn (M:=model prog w) X gh
 have LB:=looks_mroIn (M:=model prog w) X mb
 have LF:=Gu (M:=model prog w) (x:=x) X cl sg tk
 have f3:=PySem.F.attr_ValueError.ga.bind (.ref x)
 have hx2:(Value.builtin "BaseException.__getattribute__" ==Value.builtin "object.__getattribute__")=false:=by decide+kernel
 unfold getAttr? getAttrBy? getAttrBy
 refine wpAny_bind (wpAny_mkText (wpAny_bind (wpAny_attempt (wpAny_holding (wpAny_bind (L0.at (wpAny_bind (L1.at ?_))))))))
 dsimp only
 rw[hx2,Bool.and_false,if_neg Bool.false_ne_true]
 unfold getAttrByItsOwn hookBefore callGetattribute boundAndCalled
 refine wpAny_bind (L2.at ?_)
 refine wpAny_bind (wpAny_attempt (wpAny_holding ?_))
 rw[Bool.false_and,if_neg Bool.false_ne_true,f3]
 refine wpAny_bind (wpAny_pure ?_)
 refine wpAny_call (codeAny_call_builtin PySem.F.attr_ValueError.ga.plain PySem.F.entry_bexc_ga ?_)
 have hk:builtinKind "BaseException.__getattribute__" =some .slot:=by decide+kernel
 have hsplit:splitId "BaseException.__getattribute__" =some ("BaseException","__getattribute__"):=by decide+kernel
 have ha:=PySem.F.args_bexc_ga (.ref x) (Value.str (Str.ofString "__class__") t)
 simp only[checkBuiltinCall,hk,hsplit]
 unfold isInstance
 refine wpAny_bind (wpAny_bind (L0.at ?_))
 refine LB.at ?_
 rw[if_neg (by decide)]
 have fin:∀s1:Shared,s1=⟨hh,g,d,t+1,os⟩->wpAny (model prog w) A.in1 («object.__getattribute__» {pos:=[Value.ref x]++[Value.str (Str.ofString "__class__") t]}) (λfin s'=>match fin with | .done (.ret v)=>v= .ref D/\s'=s1 |_=>False) (λ_ _=>False) s1:=by
  intro s1 hs1
  subst hs1
  unfold «object.__getattribute__» bindTo
  repeat (any_goals (first |with_reducible refine wpAny_call (Db X L0 mo ?_) |lk))
  exact⟨rfl,rfl⟩
 unfold argsOk at ha
 have sg2:∀sig,Manifest.signature? "BaseException.__getattribute__" =some sig->Bind.checkArgs "BaseException.__getattribute__" sig {pos:=[Value.ref x,Value.str (Str.ofString "__class__") t]}=pure ():=λsig e=>by
  rw[e] at ha
  exact ha
 have YR:∀{P:Unit->Shared->Prop}{E':Value->Shared->Prop}{s1:Shared},P () s1->wpAny (model prog w) A.in1 (match Manifest.signature? "BaseException.__getattribute__" with |some sig=>Bind.checkArgs "BaseException.__getattribute__" sig {pos:=[Value.ref x]++[Value.str (Str.ofString "__class__") t]} |_=>pure ()) P E' s1:=fun {P E' s1} p=>by
  split
  ·rename_i sig e
   rw[show[Value.ref x]++[Value.str (Str.ofString "__class__") t]=[Value.ref x,Value.str (Str.ofString "__class__") t] from rfl,sg2 sig e]
   exact wpAny_pure p
  ·exact wpAny_pure p
 refine YR ?_
 refine wpAny_mono (fin _ rfl) (λfi s' z=>?_) λ_ _ z=>z.elim
 rcases fi with(_ |_ |_ |v) |_
 all_goals first |exact z.elim |skip
 obtain⟨rfl,rfl⟩:=z
 exact handed_on rfl (wpAny_pure h)
theorem GF (hA:erA K D=true):KitX K (.ref x) (.ref D) (λh=>∃ o,h.get? x=some o/\o.cls= .ref D) where
 ty:=λ_ _ _ ⟨o,ho,hc⟩=>hc▸(Looks.ld ho).andThen .now
 it:=λ_ _ X _=>by
  unfold erA at hA
  simp only[Bool.and_eq_true] at hA
  have z0:=hA.1.2
  unfold clsIn at z0
  split at z0
  ·rename_i ho
   intro A' Q' E' s' k q
   unfold isType loadHead
   exact wpAny_bind (wpAny_loadPart (k _ _ (X _ _ ho)) (wpAny_pure q))
  ·cases z0
 ne:=λh tp dd its n sl X htp=>by
  unfold erA at hA
  simp only[Bool.and_eq_true] at hA
  have z0:=hA.1.2
  refine Bool.eq_false_iff.mpr λq=>?_
  have e:D=tp:=Value.ref.inj (beq_iff_eq.mp q)
  subst e
  unfold clsIn at z0
  split at z0
  ·rename_i ho
   cases(X _ _ ho).symm.trans htp
  ·cases z0
 ca:=λX I k=>Kl X I hA k
end
theorem DX {X:Cx}{x:Str}{v:V}{pos:Pos}(h:∃u,X.mg x=some u/\XV v u)(hg:Gl X x)(hd:(x==("__debug__":Str))=false:=by decide):PE X (.Name x pos) (tC v):=by
 obtain⟨u,hm,r⟩:=h
 exact Vv hg hm r hd
theorem PS.nox {X:Cx}{st:Stmt}{t:TS}(h:PS X.nox st t):PS X st t:=λpins s σ H D I hw=>
 wpAny_mono (h pins s σ H D (I.wish _) hw) (λ_ _ q=>q.unwish) λ_ _ z=>False.elim z
theorem Ub {X:Cx}{a C:Addr}{o:Obj}{pn:List (Addr×Obj)}(hpn:X.pn=pn)(hp:(a,o)∈pn)(hc:o.cls= .ref C){K:Frag}(hK:X.K=K):Y9 X (.builtin "isinstance") (BS K (.ref C) a):=by
 subst hpn hK
 intro pins s σ H xs us Q I r ⟨d,b,C',hC',hA,hxs,hd,hk,q⟩
 cases hC'
 subst hxs
 obtain⟨e,_⟩:=I.pin (a,o) (List.mem_append_left _ hp)
 cases r with
 |cons r1 r2=>
  cases r2 with
  |cons r3 r4=>
   cases r4
   rename_i u1 u2
   obtain rfl:u1=Value.ref a:=r1
   have e2:u2=vOf d:=by
    rcases hd with⟨D,rfl⟩ | ⟨n,rfl⟩
    ·exact r3
    ·exact r3
   subst e2
   exact kia_one (GF hA) I.kIn ⟨o,e,hc⟩ hk (λz=>nomatch z) λtk=>⟨.bl b,H,I.tok tk,rfl,q⟩
section
variable {K:PySem.W.Frag}{C D:Addr}{b:Bool}
theorem KA (h1:PySem.W.findIn K (.ref C) "__getattribute__" =some (some (.builtin "BaseException.__getattribute__")))(h2:PySem.W.findIn K (.ref C) "__getattr__" =some none)(h3:PySem.W.findIn K (.ref C) "__class__" =some (some (.builtin "object.__class__")))
  (h6:PySem.W.mroIn K C (.type "object")=some true)(h7:PySem.W.isClsIn K C=true)(h8:PySem.W.mroIn K C (.type "BaseException")=some true)(h4:PySem.W.specialIn K (.builtin "object.__class__") "__get__" =some (some (.builtin "getset_descriptor.__get__")))(h5:PySem.W.takesIn K (.builtin "object.__class__")=some true):erA K C=true:=by
 unfold erA
 unfold PySem.W.isClsIn at h7
 rw[h1,h2,h3,h4,h5,h6,h7,h8]
 rfl
theorem Vh (h:PySem.W.subIn K (.ref C) (.type "ValueError")=some true):PySem.W.kitOne K (.ref C) (.type "ValueError")=some true:=by
 have e:PySem.W.kitOne K (.ref C) (.type "ValueError")=PySem.W.subIn K (.ref C) (.type "ValueError"):=rfl
 rw[e,h]
theorem Jg (s:PySem.W.subIn K (.ref C) (.ref C)=some true)(h:PySem.W.subIn K (.ref C) (.ref D)=some b)(h7:PySem.W.isClsIn K D=true)(ht:PySem.W.typeIn K (.ref D)=some (.type "type"))(hb:PySem.W.subIn K (.ref D) (.type "BaseException")=some true):
  PySem.W.kitOne K (.ref C) (.ref D)=some b/\PySem.W.exmOne K (.ref C) (.ref D)=some b:=by
 have e:PySem.W.kitCls K (.ref C) (.ref D)=some b:=by
  unfold PySem.W.kitCls
  unfold PySem.W.isClsIn at h7
  dsimp only
  rw[h7,ht,h]
  rfl
 constructor
 ·unfold PySem.W.kitOne
  rw[e]
  split
  ·rename_i q
   have q:=eq_of_beq q
   rw[←q,s] at h
   exact h
  ·rfl
 ·unfold PySem.W.exmOne
  rw[hb,e]
  rfl
end
end L2
namespace L2
open PySem PySem.Spec PyProof.Rows
theorem P3.dropLast {α β γ:Type}{F:α->β->γ->Prop}:∀{l m n},P3 F l m n->P3 F l.dropLast m.dropLast n.dropLast
 |_,_,_, .nil=>.nil
 |_,_,_, .cons _ .nil=>.nil
 |_,_,_, .cons r (.cons q t)=>.cons r (P3.dropLast (.cons q t))
section
variable {α β:Type}{K:PySem.W.Frag}{Er:Exc->Hp->Prop}{S:SC}{OO:List (List Xs)}{σ:St}{Fd:Ends->β->Hp->Prop}[fd:FdOk Fd]{u:TS}
end
section
variable {α β γ δ ε:Type}
noncomputable def rEi (r:Enc α)(q:Enc β):Enc (α ⊕ β):=λK H v a=>match a with
 | .inl a=>r K H v a
 | .inr b=>q K H v b
noncomputable def oEi (o:OE α)(p:OE β):OE (α ⊕ β):=λK H v a C=>match a with
 | .inl a=>o K H v a C
 | .inr b=>p K H v b C
instance {r:Enc α}{q:Enc β}[m:MonoE r][n:MonoE q]:MonoE (rEi r q):=⟨fun {K H H' v a} s h=>by cases a with
 |inl a=>exact m.mono s h
 |inr a=>exact n.mono s h⟩
instance {r:Enc α}{q:Enc β}[m:FlatE r][n:FlatE q]:FlatE (rEi r q):=⟨fun {K H H' v a} s h=>by cases a with
 |inl a=>exact m.flat s h
 |inr a=>exact n.flat s h⟩
instance {r:OE α}{q:OE β}[m:MonoO r][n:MonoO q]:MonoO (oEi r q):=⟨fun {K H H' v a C} s h=>by cases a with
 |inl a=>exact m.mono s h
 |inr a=>exact n.mono s h⟩
instance {r:OE α}{q:OE β}[m:FlatO r][n:FlatO q]:FlatO (oEi r q):=⟨fun {K H H' v a C} s h=>by cases a with
 |inl a=>exact m.flat s h
 |inr a=>exact n.flat s h⟩
instance {r:OE α}{q:OE β}{t:Enc α}{u:Enc β}[m:FrzC r t][n:FrzC q u]:FrzC (oEi r q) (rEi t u):=⟨fun {K H H' v a C} h s hc=>by cases a with
 |inl a=>exact m.frz h s hc
 |inr a=>exact n.frz h s hc⟩
inductive Kd where
 |non |bl |int |str |lst |tup
noncomputable def KdV (s:Shared)(v:Value):Kd->Prop
 | .non=>v= .none
 | .bl=>∃ b,v= .bool b
 | .int=>∃ i t,v= .int i t
 | .str=>∃ x t,v= .str x t
 | .lst=>∃ l items,v= .ref l/\s.heap.IsList l items
 | .tup=>∃ l items,v= .ref l/\s.heap.IsTuple l items
noncomputable def KdX (K:PySem.W.Frag)(H:Hp)(x:V):Kd->Prop
 | .non=>x= .non
 | .bl=>∃ b,x= .bl b
 | .int=>∃ i,x= .int i
 | .str=>∃ i,x= .str i
 | .lst=>∃ a xs,x= .ref a/\SqL K H a xs
 | .tup=>∃ a xs,x= .ref a/\SqT K H a xs
noncomputable def Kd.dis:Kd->Kd->Bool
 | .non, .bl=>true
 | .non, .int=>true
 | .non, .str=>true
 | .non, .lst=>true
 | .non, .tup=>true
 | .bl, .non=>true
 | .bl, .str=>true
 | .bl, .lst=>true
 | .bl, .tup=>true
 | .int, .non=>true
 | .int, .str=>true
 | .int, .lst=>true
 | .int, .tup=>true
 | .str, .non=>true
 | .str, .bl=>true
 | .str, .int=>true
 | .str, .lst=>true
 | .str, .tup=>true
 | .lst, .non=>true
 | .lst, .bl=>true
 | .lst, .int=>true
 | .lst, .str=>true
 | .lst, .tup=>true
 | .tup, .non=>true
 | .tup, .bl=>true
 | .tup, .int=>true
 | .tup, .str=>true
 | .tup, .lst=>true
 |_,_=>false
theorem kdV {X:Cx}{pins:List (Addr×Obj)}{σ:St}{H:Hp}{s:Shared}{x:V}{v:Value}(I:Inv X pins σ H s)(rx:XV x v):∀{k:Kd},KdX X.K H x k->KdV s v k
 | .non,h=>by cases(show x= .non from h);cases rx;rfl
 | .bl,⟨b,h⟩=>by subst h;cases rx;exact⟨b,rfl⟩
 | .int,⟨b,h⟩=>by subst h;obtain⟨t,rfl⟩:=rx;exact⟨b,t,rfl⟩
 | .str,⟨b,h⟩=>by subst h;obtain⟨t,rfl⟩:=rx;exact⟨b,t,rfl⟩
 | .lst,⟨a,xs,h,q⟩=>by
  subst h;cases rx
  obtain⟨its,r1,l1,_⟩:=I.list q
  exact⟨a,_,rfl,l1.isList⟩
 | .tup,⟨a,xs,h,q⟩=>by
  subst h;cases rx
  obtain⟨its,r1,l1,_⟩:=I.tuple q
  exact⟨a,_,rfl,l1⟩
theorem BJ {X:Cx}{pins:List (Addr×Obj)}{σ:St}{H:Hp}{s:Shared}{x:V}(I:Inv X pins σ H s):∀{j k:Kd},j.dis k=true->KdX X.K H x j->KdX X.K H x k->False
 | .non, .bl,_,h1,h2=>by
  have e1:x= .non:=h1
  obtain⟨b2,e2⟩:=h2
  rw[e1] at e2;cases e2
 | .non, .int,_,h1,h2=>by
  have e1:x= .non:=h1
  obtain⟨b2,e2⟩:=h2
  rw[e1] at e2;cases e2
 | .non, .str,_,h1,h2=>by
  have e1:x= .non:=h1
  obtain⟨b2,e2⟩:=h2
  rw[e1] at e2;cases e2
 | .non, .lst,_,h1,h2=>by
  have e1:x= .non:=h1
  obtain⟨a2,xs2,e2,q2⟩:=h2
  rw[e1] at e2;cases e2
 | .non, .tup,_,h1,h2=>by
  have e1:x= .non:=h1
  obtain⟨a2,xs2,e2,q2⟩:=h2
  rw[e1] at e2;cases e2
 | .bl, .non,_,h1,h2=>by
  obtain⟨b1,e1⟩:=h1
  have e2:x= .non:=h2
  rw[e1] at e2;cases e2
 | .bl, .str,_,h1,h2=>by
  obtain⟨b1,e1⟩:=h1
  obtain⟨b2,e2⟩:=h2
  rw[e1] at e2;cases e2
 | .bl, .lst,_,h1,h2=>by
  obtain⟨b1,e1⟩:=h1
  obtain⟨a2,xs2,e2,q2⟩:=h2
  rw[e1] at e2;cases e2
 | .bl, .tup,_,h1,h2=>by
  obtain⟨b1,e1⟩:=h1
  obtain⟨a2,xs2,e2,q2⟩:=h2
  rw[e1] at e2;cases e2
 | .int, .non,_,h1,h2=>by
  obtain⟨b1,e1⟩:=h1
  have e2:x= .non:=h2
  rw[e1] at e2;cases e2
 | .int, .str,_,h1,h2=>by
  obtain⟨b1,e1⟩:=h1
  obtain⟨b2,e2⟩:=h2
  rw[e1] at e2;cases e2
 | .int, .lst,_,h1,h2=>by
  obtain⟨b1,e1⟩:=h1
  obtain⟨a2,xs2,e2,q2⟩:=h2
  rw[e1] at e2;cases e2
 | .int, .tup,_,h1,h2=>by
  obtain⟨b1,e1⟩:=h1
  obtain⟨a2,xs2,e2,q2⟩:=h2
  rw[e1] at e2;cases e2
 | .str, .non,_,h1,h2=>by
  obtain⟨b1,e1⟩:=h1
  have e2:x= .non:=h2
  rw[e1] at e2;cases e2
 | .str, .bl,_,h1,h2=>by
  obtain⟨b1,e1⟩:=h1
  obtain⟨b2,e2⟩:=h2
  rw[e1] at e2;cases e2
 | .str, .int,_,h1,h2=>by
  obtain⟨b1,e1⟩:=h1
  obtain⟨b2,e2⟩:=h2
  rw[e1] at e2;cases e2
 | .str, .lst,_,h1,h2=>by
  obtain⟨b1,e1⟩:=h1
  obtain⟨a2,xs2,e2,q2⟩:=h2
  rw[e1] at e2;cases e2
 | .str, .tup,_,h1,h2=>by
  obtain⟨b1,e1⟩:=h1
  obtain⟨a2,xs2,e2,q2⟩:=h2
  rw[e1] at e2;cases e2
 | .lst, .non,_,h1,h2=>by
  obtain⟨a1,xs1,e1,q1⟩:=h1
  have e2:x= .non:=h2
  rw[e1] at e2;cases e2
 | .lst, .bl,_,h1,h2=>by
  obtain⟨a1,xs1,e1,q1⟩:=h1
  obtain⟨b2,e2⟩:=h2
  rw[e1] at e2;cases e2
 | .lst, .int,_,h1,h2=>by
  obtain⟨a1,xs1,e1,q1⟩:=h1
  obtain⟨b2,e2⟩:=h2
  rw[e1] at e2;cases e2
 | .lst, .str,_,h1,h2=>by
  obtain⟨a1,xs1,e1,q1⟩:=h1
  obtain⟨b2,e2⟩:=h2
  rw[e1] at e2;cases e2
 | .lst, .tup,_,h1,h2=>by
  obtain⟨a1,xs1,e1,q1⟩:=h1
  obtain⟨a2,xs2,e2,q2⟩:=h2
  rw[e1] at e2;cases e2
  obtain⟨i1,_,l1,_⟩:=I.list q1
  obtain⟨i2,_,l2,_⟩:=I.tuple q2
  exact SeqAt.ne_of_list_tuple l1.isList l2 rfl
 | .tup, .non,_,h1,h2=>by
  obtain⟨a1,xs1,e1,q1⟩:=h1
  have e2:x= .non:=h2
  rw[e1] at e2;cases e2
 | .tup, .bl,_,h1,h2=>by
  obtain⟨a1,xs1,e1,q1⟩:=h1
  obtain⟨b2,e2⟩:=h2
  rw[e1] at e2;cases e2
 | .tup, .int,_,h1,h2=>by
  obtain⟨a1,xs1,e1,q1⟩:=h1
  obtain⟨b2,e2⟩:=h2
  rw[e1] at e2;cases e2
 | .tup, .str,_,h1,h2=>by
  obtain⟨a1,xs1,e1,q1⟩:=h1
  obtain⟨b2,e2⟩:=h2
  rw[e1] at e2;cases e2
 | .tup, .lst,_,h1,h2=>by
  obtain⟨a1,xs1,e1,q1⟩:=h1
  obtain⟨a2,xs2,e2,q2⟩:=h2
  rw[e1] at e2;cases e2
  obtain⟨i1,_,l1,_⟩:=I.list q2
  obtain⟨i2,_,l2,_⟩:=I.tuple q1
  exact SeqAt.ne_of_list_tuple l1.isList l2 rfl
 | .non, .non,h,_,_=>absurd h Bool.false_ne_true
 | .bl, .bl,h,_,_=>absurd h Bool.false_ne_true
 | .bl, .int,h,_,_=>absurd h Bool.false_ne_true
 | .int, .bl,h,_,_=>absurd h Bool.false_ne_true
 | .int, .int,h,_,_=>absurd h Bool.false_ne_true
 | .str, .str,h,_,_=>absurd h Bool.false_ne_true
 | .lst, .lst,h,_,_=>absurd h Bool.false_ne_true
 | .tup, .tup,h,_,_=>absurd h Bool.false_ne_true
theorem Cq {s:Shared}{A:Around}{v u:Value}(hu:A.units<cLine):∀{j k:Kd},j.dis k=true->KdV s v j->KdV s u k->SeqAt.EqAt A s v u false/\SeqAt.RcAt A s v u false/\SeqAt.RcNeAt A s v u true
 | .non, .non,h,_,_=>absurd h Bool.false_ne_true
 | .non, .bl,_,h1,h2=>by
  cases(show _=Value.none from h1)
  obtain⟨b2,rfl⟩:=h2
  exact⟨SeqAt.EqAt.none_bool b2,SeqAt.RcAt.none_bool b2,SeqAt.RcNeAt.none_bool b2⟩
 | .non, .int,_,h1,h2=>by
  cases(show _=Value.none from h1)
  obtain⟨i2,t2,rfl⟩:=h2
  exact⟨SeqAt.EqAt.none_int i2 t2,SeqAt.RcAt.none_int i2 t2,SeqAt.RcNeAt.none_int i2 t2⟩
 | .non, .str,_,h1,h2=>by
  cases(show _=Value.none from h1)
  obtain⟨i2,t2,rfl⟩:=h2
  exact⟨SeqAt.EqAt.none_str i2 t2,SeqAt.RcAt.none_str i2 t2,SeqAt.RcNeAt.none_str i2 t2⟩
 | .non, .lst,_,h1,h2=>by
  cases(show _=Value.none from h1)
  obtain⟨l2,is2,rfl,q2⟩:=h2
  exact⟨SeqAt.EqAt.none_list q2 hu,SeqAt.RcAt.none_list q2 hu,SeqAt.RcNeAt.none_list q2 hu⟩
 | .non, .tup,_,h1,h2=>by
  cases(show _=Value.none from h1)
  obtain⟨l2,is2,rfl,q2⟩:=h2
  exact⟨SeqAt.EqAt.none_tuple q2 hu,SeqAt.RcAt.none_tuple q2 hu,SeqAt.RcNeAt.none_tuple q2 hu⟩
 | .bl, .non,_,h1,h2=>by
  obtain⟨b1,rfl⟩:=h1
  cases(show _=Value.none from h2)
  exact⟨SeqAt.EqAt.bool_none b1,SeqAt.RcAt.bool_none b1,SeqAt.RcNeAt.bool_none b1⟩
 | .bl, .bl,h,_,_=>absurd h Bool.false_ne_true
 | .bl, .int,h,_,_=>absurd h Bool.false_ne_true
 | .bl, .str,_,h1,h2=>by
  obtain⟨b1,rfl⟩:=h1
  obtain⟨i2,t2,rfl⟩:=h2
  exact⟨SeqAt.EqAt.bool_str b1 i2 t2,SeqAt.RcAt.bool_str b1 i2 t2,SeqAt.RcNeAt.bool_str b1 i2 t2⟩
 | .bl, .lst,_,h1,h2=>by
  obtain⟨b1,rfl⟩:=h1
  obtain⟨l2,is2,rfl,q2⟩:=h2
  exact⟨SeqAt.EqAt.bool_list b1 q2 hu,SeqAt.RcAt.bool_list b1 q2 hu,SeqAt.RcNeAt.bool_list b1 q2 hu⟩
 | .bl, .tup,_,h1,h2=>by
  obtain⟨b1,rfl⟩:=h1
  obtain⟨l2,is2,rfl,q2⟩:=h2
  exact⟨SeqAt.EqAt.bool_tuple b1 q2 hu,SeqAt.RcAt.bool_tuple b1 q2 hu,SeqAt.RcNeAt.bool_tuple b1 q2 hu⟩
 | .int, .non,_,h1,h2=>by
  obtain⟨i1,t1,rfl⟩:=h1
  cases(show _=Value.none from h2)
  exact⟨SeqAt.EqAt.int_none i1 t1,SeqAt.RcAt.int_none i1 t1,SeqAt.RcNeAt.int_none i1 t1⟩
 | .int, .bl,h,_,_=>absurd h Bool.false_ne_true
 | .int, .int,h,_,_=>absurd h Bool.false_ne_true
 | .int, .str,_,h1,h2=>by
  obtain⟨i1,t1,rfl⟩:=h1
  obtain⟨i2,t2,rfl⟩:=h2
  exact⟨SeqAt.EqAt.int_str i1 t1 i2 t2,SeqAt.RcAt.int_str i1 t1 i2 t2,SeqAt.RcNeAt.int_str i1 t1 i2 t2⟩
 | .int, .lst,_,h1,h2=>by
  obtain⟨i1,t1,rfl⟩:=h1
  obtain⟨l2,is2,rfl,q2⟩:=h2
  exact⟨SeqAt.EqAt.int_list i1 t1 q2 hu,SeqAt.RcAt.int_list i1 t1 q2 hu,SeqAt.RcNeAt.int_list i1 t1 q2 hu⟩
 | .int, .tup,_,h1,h2=>by
  obtain⟨i1,t1,rfl⟩:=h1
  obtain⟨l2,is2,rfl,q2⟩:=h2
  exact⟨SeqAt.EqAt.int_tuple i1 t1 q2 hu,SeqAt.RcAt.int_tuple i1 t1 q2 hu,SeqAt.RcNeAt.int_tuple i1 t1 q2 hu⟩
 | .str, .non,_,h1,h2=>by
  obtain⟨i1,t1,rfl⟩:=h1
  cases(show _=Value.none from h2)
  exact⟨SeqAt.EqAt.str_none i1 t1,SeqAt.RcAt.str_none i1 t1,SeqAt.RcNeAt.str_none i1 t1⟩
 | .str, .bl,_,h1,h2=>by
  obtain⟨i1,t1,rfl⟩:=h1
  obtain⟨b2,rfl⟩:=h2
  exact⟨SeqAt.EqAt.str_bool i1 t1 b2,SeqAt.RcAt.str_bool i1 t1 b2,SeqAt.RcNeAt.str_bool i1 t1 b2⟩
 | .str, .int,_,h1,h2=>by
  obtain⟨i1,t1,rfl⟩:=h1
  obtain⟨i2,t2,rfl⟩:=h2
  exact⟨SeqAt.EqAt.str_int i1 t1 i2 t2,SeqAt.RcAt.str_int i1 t1 i2 t2,SeqAt.RcNeAt.str_int i1 t1 i2 t2⟩
 | .str, .str,h,_,_=>absurd h Bool.false_ne_true
 | .str, .lst,_,h1,h2=>by
  obtain⟨i1,t1,rfl⟩:=h1
  obtain⟨l2,is2,rfl,q2⟩:=h2
  exact⟨SeqAt.EqAt.str_list i1 t1 q2 hu,SeqAt.RcAt.str_list i1 t1 q2 hu,SeqAt.RcNeAt.str_list i1 t1 q2 hu⟩
 | .str, .tup,_,h1,h2=>by
  obtain⟨i1,t1,rfl⟩:=h1
  obtain⟨l2,is2,rfl,q2⟩:=h2
  exact⟨SeqAt.EqAt.str_tuple i1 t1 q2 hu,SeqAt.RcAt.str_tuple i1 t1 q2 hu,SeqAt.RcNeAt.str_tuple i1 t1 q2 hu⟩
 | .lst, .non,_,h1,h2=>by
  obtain⟨l1,is1,rfl,q1⟩:=h1
  cases(show _=Value.none from h2)
  exact⟨SeqAt.EqAt.list_none q1 hu,SeqAt.RcAt.list_none q1 hu,SeqAt.RcNeAt.list_none q1 hu⟩
 | .lst, .bl,_,h1,h2=>by
  obtain⟨l1,is1,rfl,q1⟩:=h1
  obtain⟨b2,rfl⟩:=h2
  exact⟨SeqAt.EqAt.list_bool b2 q1 hu,SeqAt.RcAt.list_bool b2 q1 hu,SeqAt.RcNeAt.list_bool b2 q1 hu⟩
 | .lst, .int,_,h1,h2=>by
  obtain⟨l1,is1,rfl,q1⟩:=h1
  obtain⟨i2,t2,rfl⟩:=h2
  exact⟨SeqAt.EqAt.list_int i2 t2 q1 hu,SeqAt.RcAt.list_int i2 t2 q1 hu,SeqAt.RcNeAt.list_int i2 t2 q1 hu⟩
 | .lst, .str,_,h1,h2=>by
  obtain⟨l1,is1,rfl,q1⟩:=h1
  obtain⟨i2,t2,rfl⟩:=h2
  exact⟨SeqAt.EqAt.list_str i2 t2 q1 hu,SeqAt.RcAt.list_str i2 t2 q1 hu,SeqAt.RcNeAt.list_str i2 t2 q1 hu⟩
 | .lst, .lst,h,_,_=>absurd h Bool.false_ne_true
 | .lst, .tup,_,h1,h2=>by
  obtain⟨l1,is1,rfl,q1⟩:=h1
  obtain⟨l2,is2,rfl,q2⟩:=h2
  exact⟨SeqAt.EqAt.of_refs (SeqAt.ne_of_list_tuple q1 q2) (SeqAt.RcAt.list_tuple q1 q2 hu),SeqAt.RcAt.list_tuple q1 q2 hu,SeqAt.RcNeAt.list_tuple q1 q2 hu⟩
 | .tup, .non,_,h1,h2=>by
  obtain⟨l1,is1,rfl,q1⟩:=h1
  cases(show _=Value.none from h2)
  exact⟨SeqAt.EqAt.tuple_none q1 hu,SeqAt.RcAt.tuple_none q1 hu,SeqAt.RcNeAt.tuple_none q1 hu⟩
 | .tup, .bl,_,h1,h2=>by
  obtain⟨l1,is1,rfl,q1⟩:=h1
  obtain⟨b2,rfl⟩:=h2
  exact⟨SeqAt.EqAt.tuple_bool b2 q1 hu,SeqAt.RcAt.tuple_bool b2 q1 hu,SeqAt.RcNeAt.tuple_bool b2 q1 hu⟩
 | .tup, .int,_,h1,h2=>by
  obtain⟨l1,is1,rfl,q1⟩:=h1
  obtain⟨i2,t2,rfl⟩:=h2
  exact⟨SeqAt.EqAt.tuple_int i2 t2 q1 hu,SeqAt.RcAt.tuple_int i2 t2 q1 hu,SeqAt.RcNeAt.tuple_int i2 t2 q1 hu⟩
 | .tup, .str,_,h1,h2=>by
  obtain⟨l1,is1,rfl,q1⟩:=h1
  obtain⟨i2,t2,rfl⟩:=h2
  exact⟨SeqAt.EqAt.tuple_str i2 t2 q1 hu,SeqAt.RcAt.tuple_str i2 t2 q1 hu,SeqAt.RcNeAt.tuple_str i2 t2 q1 hu⟩
 | .tup, .lst,_,h1,h2=>by
  obtain⟨l1,is1,rfl,q1⟩:=h1
  obtain⟨l2,is2,rfl,q2⟩:=h2
  exact⟨SeqAt.EqAt.of_refs (λe=>SeqAt.ne_of_list_tuple q2 q1 e.symm) (SeqAt.RcAt.tuple_list q1 q2 hu),SeqAt.RcAt.tuple_list q1 q2 hu,SeqAt.RcNeAt.tuple_list q1 q2 hu⟩
 | .tup, .tup,h,_,_=>absurd h Bool.false_ne_true
class KdE (r:Enc α)(k:outParam Kd):Prop where
 to:∀{K:PySem.W.Frag}{H:Hp}{x:V}{a:α},r K H x a->KdX K H x k
instance:KdE Xg .int:=⟨λh=>⟨_,h⟩⟩
instance:KdE Xx .bl:=⟨λh=>⟨_,h⟩⟩
instance:KdE Xm .str:=⟨λh=>⟨_,h⟩⟩
instance {r:Enc α}:KdE (rV r) .lst:=⟨λr9=>by obtain⟨a,xs,e,q,_⟩:=r9;exact⟨a,xs,e,SqL.of q⟩⟩
instance {r:Enc α}:KdE (rPL r) .tup:=⟨λr9=>by obtain⟨a,xs,e,q,_⟩:=r9;exact⟨a,xs,e,SqT.of q⟩⟩
instance {r:Enc α}{q:Enc β}:KdE (rP2 r q) .tup:=⟨λr9=>by obtain⟨a,x,y,e,q,_⟩:=r9;exact⟨a,_,e,SqT.of q⟩⟩
instance {r:Enc α}{q:Enc β}{t:Enc γ}:KdE (rP3 r q t) .tup:=⟨λr9=>by obtain⟨a,x,y,z,e,q,_⟩:=r9;exact⟨a,_,e,SqT.of q⟩⟩
structure Crs (r:Enc α)(q:Enc β)(d:Nat):Prop where
 no:∀{X:Cx}{pins:List (Addr×Obj)}{σ:St}{H:Hp}{s:Shared}{x:V}{a:α}{b:β},Inv X pins σ H s->r X.K H x a->q X.K H x b->False
 lr:∀{X:Cx}{pins:List (Addr×Obj)}{σ:St}{H:Hp}{s:Shared}{x y:V}{v u:Value}{a:α}{b:β}{A:Around},Inv X pins σ H s->XV x v->XV y u->r X.K H x a->q X.K H y b->A.units+d<cLine->SeqAt.EqAt A s v u false/\SeqAt.RcAt A s v u false/\SeqAt.RcNeAt A s v u true
 rl:∀{X:Cx}{pins:List (Addr×Obj)}{σ:St}{H:Hp}{s:Shared}{x y:V}{v u:Value}{a:α}{b:β}{A:Around},Inv X pins σ H s->XV x v->XV y u->q X.K H x b->r X.K H y a->A.units+d<cLine->SeqAt.EqAt A s v u false/\SeqAt.RcAt A s v u false/\SeqAt.RcNeAt A s v u true
theorem Crs.up {r:Enc α}{q:Enc β}{d e:Nat}(c:Crs r q d)(h:d<=e):Crs r q e:=⟨c.no,λI rx ry h1 h2 hu=>c.lr I rx ry h1 h2 (by omega),λI rx ry h1 h2 hu=>c.rl I rx ry h1 h2 (by omega)⟩
theorem Ct {r:Enc α}{q:Enc β}{j k:Kd}[m:KdE r j][n:KdE q k](h:j.dis k=true)(h':k.dis j=true):Crs r q 0:=
 ⟨λI h1 h2=>BJ I h (m.to h1) (n.to h2),λI rx ry h1 h2 hu=>Cq (by omega) h (kdV I rx (m.to h1)) (kdV I ry (n.to h2)),λI rx ry h1 h2 hu=>Cq (by omega) h' (kdV I rx (n.to h1)) (kdV I ry (m.to h2))⟩
theorem Dc {a b:Str}:(a==b)=decide (a=b):=by rw[Bool.eq_iff_iff];simp
theorem FY:EqOk Xm 0 where
 uniq:=λ_ h1 h2=>by
  have h1':_=V.str _:=h1
  have h2':_=V.str _:=h2
  rw[h1'] at h2';injection h2'
 eq:=fun {X pins σ H s x y v u a b A} I rx ry h1 h2 _=>by
  have h1':x=V.str a:=h1
  have h2':y=V.str b:=h2
  subst h1' h2'
  obtain⟨t,rfl⟩:=rx
  obtain⟨t',rfl⟩:=ry
  rw[←Dc];exact SeqAt.EqAt.str_str a t b t'
 rc:=fun {X pins σ H s x y v u a b A} I rx ry h1 h2 _=>by
  have h1':x=V.str a:=h1
  have h2':y=V.str b:=h2
  subst h1' h2'
  obtain⟨t,rfl⟩:=rx
  obtain⟨t',rfl⟩:=ry
  rw[←Dc];exact SeqAt.RcAt.str_str a t b t'
 ne:=fun {X pins σ H s x y v u a b A} I rx ry h1 h2 _=>by
  have h1':x=V.str a:=h1
  have h2':y=V.str b:=h2
  subst h1' h2'
  obtain⟨t,rfl⟩:=rx
  obtain⟨t',rfl⟩:=ry
  rw[←Dc];exact SeqAt.RcNeAt.str_str a t b t'
 keep:=λ_ h=>h
theorem DN {a b:Bool}:(a==b)=decide (a=b):=by rw[Bool.eq_iff_iff];simp
theorem Cz:EqOk Xx 0 where
 uniq:=λ_ h1 h2=>by
  have h1':_=V.bl _:=h1
  have h2':_=V.bl _:=h2
  rw[h1'] at h2';injection h2'
 eq:=fun {X pins σ H s x y v u a b A} I rx ry h1 h2 _=>by
  have h1':x=V.bl a:=h1
  have h2':y=V.bl b:=h2
  subst h1' h2'
  cases rx;cases ry
  rw[←DN];exact SeqAt.EqAt.bool_bool a b
 rc:=fun {X pins σ H s x y v u a b A} I rx ry h1 h2 _=>by
  have h1':x=V.bl a:=h1
  have h2':y=V.bl b:=h2
  subst h1' h2'
  cases rx;cases ry
  rw[←DN];exact SeqAt.RcAt.bool_bool a b
 ne:=fun {X pins σ H s x y v u a b A} I rx ry h1 h2 _=>by
  have h1':x=V.bl a:=h1
  have h2':y=V.bl b:=h2
  subst h1' h2'
  cases rx;cases ry
  rw[←DN];exact SeqAt.RcNeAt.bool_bool a b
 keep:=λ_ h=>h
theorem CY [DecidableEq α]{r:Enc α}{r1:Enc β}{q1:Enc δ}{d:Nat}(E:EqOk r d)(c:Crs r1 q1 d):Crs (rP2 r r1) (rP2 r q1) (d+1):=by
 refine⟨λI ⟨a,x,y,e,q,_,h⟩ ⟨b,x',y',e',q',_,h'⟩=>?_,?_,?_⟩
 ·rw[e] at e';cases e'
  cases I.tuple_inj (SqT.of q) (SqT.of q')
  exact c.no I h h'
 ·rintro X pins σ H s x y v u ⟨a1,a2⟩ ⟨b1,b2⟩ A I rx ry ⟨a,x1,x2,rfl,q,p1,p2⟩ ⟨b,y1,y2,rfl,q',p4,p5⟩ hu
  cases rx;cases ry
  have hne:a≠b:=λe=>by
   subst e
   cases I.tuple_inj (SqT.of q) (SqT.of q')
   exact c.no I p2 p5
  obtain⟨i1,z1,l1,_⟩:=I.tuple (SqT.of q)
  obtain⟨i2,z2,l2,_⟩:=I.tuple (SqT.of q')
  obtain⟨u1,u2,rfl,e1,e2⟩:=XJ.two z1
  obtain⟨w1,w2,rfl,g1,g2⟩:=XJ.two z2
  have it:∀j (h1:j< [u1,u2].toArray.size) (h2:j< [w1,w2].toArray.size),SeqAt.EqAt A.in1 s [u1,u2].toArray[j] [w1,w2].toArray[j] ((λj=>if j=0 then decide (a1=b1) else false) j):=by
   intro j h1 h2
   have hj:j=0∨j=1:=by
    have h1':j<2:=h2
    omega
   rcases hj with rfl |rfl
   ·exact E.eq (A:=A.in1) I e1 g1 p1 p4 (by rw[Yr];omega)
   ·exact(c.lr (A:=A.in1) I e2 g2 p2 p5 (by rw[Yr];omega)).1
  have R:=SeqAt.RcAt.tuples (A:=A) l1 l2 (by omega) it
  have N:=SeqAt.RcNeAt.tuples (A:=A) l1 l2 (by omega) it
  have R':SeqAt.RcAt A s (.ref a) (.ref b) false:=by simpa[List.range_succ] using R
  exact⟨SeqAt.EqAt.of_refs hne R',R',by simpa[List.range_succ] using N⟩
 ·rintro X pins σ H s x y v u ⟨a1,a2⟩ ⟨b1,b2⟩ A I rx ry ⟨b,y1,y2,rfl,q',p4,p5⟩ ⟨a,x1,x2,rfl,q,p1,p2⟩ hu
  cases rx;cases ry
  have hne:b≠a:=λe=>by
   subst e
   cases I.tuple_inj (SqT.of q) (SqT.of q')
   exact c.no I p2 p5
  obtain⟨i1,z1,l1,_⟩:=I.tuple (SqT.of q)
  obtain⟨i2,z2,l2,_⟩:=I.tuple (SqT.of q')
  obtain⟨u1,u2,rfl,e1,e2⟩:=XJ.two z1
  obtain⟨w1,w2,rfl,g1,g2⟩:=XJ.two z2
  have it:∀j (h1:j< [w1,w2].toArray.size) (h2:j< [u1,u2].toArray.size),SeqAt.EqAt A.in1 s [w1,w2].toArray[j] [u1,u2].toArray[j] ((λj=>if j=0 then decide (b1=a1) else false) j):=by
   intro j h1 h2
   have hj:j=0∨j=1:=by
    have h1':j<2:=h1
    omega
   rcases hj with rfl |rfl
   ·exact E.eq (A:=A.in1) I g1 e1 p4 p1 (by rw[Yr];omega)
   ·exact(c.rl (A:=A.in1) I g2 e2 p5 p2 (by rw[Yr];omega)).1
  have R:=SeqAt.RcAt.tuples (A:=A) l2 l1 (by omega) it
  have N:=SeqAt.RcNeAt.tuples (A:=A) l2 l1 (by omega) it
  have R':SeqAt.RcAt A s (.ref b) (.ref a) false:=by simpa[List.range_succ] using R
  exact⟨SeqAt.EqAt.of_refs hne R',R',by simpa[List.range_succ] using N⟩
end
section
variable {K:PySem.W.Frag}{Er:Exc->Hp->Prop}{S:SC}{OO OO' OO1 OO2:List (List Xs)}{σ:St}{α β γ ρ ι δ ε ζ:Type}
variable {Fd:Ends->β->Hp->Prop}[fd:FdOk Fd]{u:TS}
theorem Df {te:TE}{o:Enc α}{p:Enc γ}{m:Rs α}(he:Ev K Er S OO OO' σ te (oF o) m):Ev K Er S OO OO' σ te (oF (rEi o p)) (m.bind λa=>.ok (.inl a)):=λH Q w s P=>by
 refine he H Q w s ?_
 cases m with
 |bad=>exact P
 |err x=>exact P
 |ok a=>exact λv C H' s' w' m' ho=>P v C H' s' w' m' ho
theorem DL {te:TE}{o:Enc α}{p:Enc γ}{m:Rs γ}(he:Ev K Er S OO OO' σ te (oF p) m):Ev K Er S OO OO' σ te (oF (rEi o p)) (m.bind λa=>.ok (.inr a)):=λH Q w s P=>by
 refine he H Q w s ?_
 cases m with
 |bad=>exact P
 |err x=>exact P
 |ok a=>exact λv C H' s' w' m' ho=>P v C H' s' w' m' ho
noncomputable def getL:α ⊕ γ->Rs α
 | .inl a=>.ok a
 | .inr _=>.bad
noncomputable def getR:α ⊕ γ->Rs γ
 | .inl _=>.bad
 | .inr b=>.ok b
theorem GS {te:TE}{o:Enc α}{p:Enc γ}{m:Rs (α ⊕ γ)}(he:EvB K Er S OO σ te (rEi o p) m):EvB K Er S OO σ te p (m.bind getR):=λH Q w s P=>by
 refine he H Q w s ?_
 cases m with
 |bad=>exact P
 |err x=>exact P
 |ok a=>cases a with
  |inl a=>exact P.elim
  |inr a=>exact λv H' s' ho=>P v H' s' ho
end
end L2
namespace L2
theorem DW {α:Type}{us:List α}(h:us.length=1):∃a,us=[a]:=List.length_eq_one_iff.mp h
theorem DQ {α:Type}{us:List α}(h:us.length=2):∃a0 a1,us=[a0,a1]:=by
 cases us with
 |nil=>cases h
 |cons a0 t=>
  obtain⟨a1,rfl⟩:=DW (Nat.succ.inj h)
  exact⟨a0,a1,rfl⟩
theorem Bw {α:Type}{us:List α}(h:us.length=3):∃a0 a1 a2,us=[a0,a1,a2]:=by
 cases us with
 |nil=>cases h
 |cons a0 t=>
  obtain⟨a1,a2,rfl⟩:=DQ (Nat.succ.inj h)
  exact⟨a0,a1,a2,rfl⟩
end L2
namespace L2
open PySem PySem.Spec PyProof.Rows
section
variable {prog:Program}{w:World}{A:Around}{E:Value->Shared->Prop}
end
section
variable {X:Cx}{pos:Pos}
end
section
variable {K:PySem.W.Frag}{Er:Exc->Hp->Prop}{S:SC}{OO OO' OO1 OO2:List (List Xs)}{σ:St}{α β γ ρ ι δ ε ζ:Type}
variable {Fd:Ends->β->Hp->Prop}[fd:FdOk Fd]{u:TS}
end
section
variable {X:Cx}
end
section
variable {K:PySem.W.Frag}{Er:Exc->Hp->Prop}{S:SC}{OO OO' OO1 OO2:List (List Xs)}{σ:St}{α β γ ρ ι δ ε ζ:Type}
variable {Fd:Ends->β->Hp->Prop}[fd:FdOk Fd]{u:TS}
end
set_option maxRecDepth 100000
section
variable {prog:Program}{w:World}{A:Around}{E:Value->Shared->Prop}{s:Shared}
end
section
variable {prog:Program}{w:World}{A:Around}{R:Result->Shared->Prop}{K:Type}[DecidableEq K]{knd:KeyKind prog w K}
noncomputable def Gw (acc kv:List (K×Value)):List (K×Value):=kv.foldl (λa p=>stored a p.1 p.2) acc
end
section
variable {X:Cx}
noncomputable def Ce (acc kvs:List (Key×V)):List (Key×V):=kvs.foldl (λa p=>Gg a p.1 p.2) acc
theorem KV.all {kvs:List (Key×V)}{vs:List (Key×Value)}(t:KV kvs vs):∀{acc:List (Key×V)}{acc':List (Key×Value)},KV acc acc'->KV (Ce acc kvs) (Gw acc' vs):=by
 induction t with
 |nil=>intro acc acc' h;exact h
 | @cons p q kvs vs r _ ih=>
  intro acc acc' h
  have h2:=h.put p.1 r.2
  have e:stored acc' p.1 q.2=stored acc' q.1 q.2:=by rw[r.1]
  rw[e] at h2
  exact ih h2
end
section
variable {X:Cx}{pins:List (Addr×Obj)}{σ:St}{H:Hp}{s:Shared}{d:Addr}{o:Obj}{kvs:List (Key×V)}
theorem KV.key {kvs:List (Key×V)}{vs:List (Key×Value)}(h:KV kvs vs):∀{i:Nat} (h1:i<kvs.length) (h2:i<vs.length),(kvs[i]).1=(vs[i]).1:=by
 induction h with
 |nil=>intro i h1;exact absurd h1 (Nat.not_lt_zero _)
 |cons r _ ih=>
  intro i h1 h2
  cases i with
  |zero=>exact r.1
  |succ i=>exact ih (Nat.lt_of_succ_lt_succ h1) (Nat.lt_of_succ_lt_succ h2)
end
section
variable {X:Cx}
end
section
variable {K:PySem.W.Frag}{Er:Exc->Hp->Prop}{S:SC}{OO OO' OO2:List (List Xs)}{σ:St}{α β γ ρ ι δ ε:Type}
variable {Fd:Ends->β->Hp->Prop}[fd:FdOk Fd]{u:TS}
theorem DF {te:TE}{r1:Enc α}{r2:Enc γ}{r3:Enc δ}[MonoE r1][MonoE r2][MonoE r3]{m:Rs (α×γ×δ)}{f:α×γ×δ->Rs β}(i j k:Nat)(he:EvS K Er S OO σ te (rP3 r1 r2 r3) m)
  (hr:∀a v w x,Sv Er (((S.add K r1 v a.1).add K r2 w a.2.1).add K r3 x a.2.2) OO (((σ.set i (some v)).set j (some w)).set k (some x)) u Fd (f a)):Sv Er S OO σ (Vc (G1 te (BM K 3 (Vs (Y8 i) (Vs (Y8 j) (Vs (Y8 k) BE))))) u) Fd (m.bind f):=λH D w s P=>
 he.st w s P λa v H1 s1 w1 q1 r1 P1=>(tg3 (K:=K) (OO:=OO) i j k).ok (S:=S) r1 q1 λx hx=>hr a _ _ _ H1 D w1 hx P1
end
section
variable {prog:Program}{w:World}{A:Around}
end
section
variable {X:Cx}
end
section
variable {K:PySem.W.Frag}{Er:Exc->Hp->Prop}{S:SC}{OO OO' OO1 OO2:List (List Xs)}{σ:St}{α β γ ρ ι δ ε:Type}
variable {Fd:Ends->β->Hp->Prop}[fd:FdOk Fd]{u:TS}
end
section
variable {X:Cx}
end
section
variable {K:PySem.W.Frag}{Er:Exc->Hp->Prop}{S:SC}{OO OO' OO1 OO2:List (List Xs)}{σ:St}{α β γ ρ ι δ ε:Type}
end
section
variable {K:PySem.W.Frag}{Er:Exc->Hp->Prop}{S:SC}{OO OO' OO1 OO2:List (List Xs)}{σ:St}{α β γ ρ ι δ ε:Type}
noncomputable def Fv (K:PySem.W.Frag):List V->Hp->VK->Prop:=λxs H Q=>∃ p ys,xs=[.ref p]/\((SqL K H p ys/\∀l,H l=none->Q (.ref l) (upd H l (.tup ys)))∨(SqT K H p ys/\Q (.ref p) H))
theorem Zc {X:Cx}(K:PySem.W.Frag)(h:X.K=K):Y9 X (.type "tuple") (Fv K):=by subst h;exact Q1
theorem QC {ta:TE}{r:Enc α}[z:MonoE r]{ma:Rs (List α)}(ha:EvB K Er S OO σ ta (rV r) ma):EvB K Er S OO σ (tCB (Fv K) (XQ ta Zs)) (rPL r) (ma.bind λa=>.ok a):=λH Q w s P=>
 ha.run w s FB.tr P λa x H1 s1 w1 q1 r9 P1=>by obtain⟨p,xs,e,q,pr⟩:=r9;exact⟨p,xs,by rw[e], .inl ⟨SqL.of q,λl hl=>P1 (.ref l) _ (XA hl _) ⟨l,xs,rfl,XU,Paired.imp2 (λ_ _ h=>z.mono (XA hl _) h) pr⟩⟩⟩
noncomputable def tk (k:List Int):List Key:=k.map Sum.inl
variable {Fd:Ends->β->Hp->Prop}[fd:FdOk Fd]{u:TS}
end
section
variable {X:Cx}{α:Type}[DecidableEq α]{r:Enc α}{d:Nat}
end
section
variable {K:PySem.W.Frag}{Er:Exc->Hp->Prop}{S:SC}{OO OO' OO1 OO2:List (List Xs)}{σ:St}{α β γ ρ ι δ ε:Type}
end
section
variable {X:Cx}{pins:List (Addr×Obj)}{σ:St}{H:Hp}{s:Shared}{h':Heap}
theorem Inv.turns {t':Nat}{ch:List Addr}(I:Inv X pins σ H s)(k:∀b o,b∉ch->s.heap.get? b=some o->h'.get? b=some o)(hf:∀b∈ch,Vu X pins H b):Inv X pins σ H {s with heap:=h',toks:=t'}:=by
 have nit:∀b o,H b=some o->b∉ch:=λb o e z=>by rw[(hf b z).1] at e;cases e
 refine I.step (g':=s.gens) (d':=s.drawn) (ch:=ch) (λb hb=>?_) (λb o _ _ hc e _=>k b o hc e) (λb o _ _ hc e _=>⟨o.slots,k b o hc e⟩)
  (λb o _ e n=>n) (λb o hc e=>⟨o,k b o hc e⟩) (λb xs e=>e) (λb o xs e=>e) (λb ps e=>⟨#[],by rw[e];simp⟩) (λm hm=>?_) (λb v e=>?_) I.bare
 ·obtain⟨f0,f1,f2,f3,f4,f5⟩:=hf b hb
  exact⟨f3,f1,f4,f5⟩
 ·obtain⟨o,es,ep,ho,r⟩:=hm
  exact⟨o,es,ep,k _ o (λz=>(hf _ z).2.1 rfl) ho,r⟩
 ·refine(I.hok b v e).stay (λc o hc q=>k c o ?_ q) (λc q=>q) λc xs q=>q
  rcases hc with z |z
  ·rw[z];exact nit b v e
  ·exact nit c _ z
end
section
variable {X:Cx}{elts:List Expr}{k:Nat}{pos0:Pos}
end
section
variable {K:PySem.W.Frag}{Er:Exc->Hp->Prop}{S:SC}{OO OO' OO1 OO2:List (List Xs)}{σ:St}{α β γ ρ ι δ ε:Type}
end
section
variable {X:Cx}
end
section
variable {K:PySem.W.Frag}{Er:Exc->Hp->Prop}{S:SC}{OO OO' OO1 OO2:List (List Xs)}{σ:St}{α β γ ρ ι δ ε:Type}
variable {Fd:Ends->β->Hp->Prop}[fd:FdOk Fd]{u:TS}
end
section
variable {K:PySem.W.Frag}{Er:Exc->Hp->Prop}{S:SC}{OO OO' OO1 OO2:List (List Xs)}{σ:St}{α β γ ρ ι δ ε:Type}{u:TS}
end
section
variable {X:Cx}
end
section
variable {K:PySem.W.Frag}{Er:Exc->Hp->Prop}{S:SC}{OO:List (List Xs)}{σ:St}
end
section
variable {X:Cx}{pins:List (Addr×Obj)}{σ:St}{H:Hp}{s:Shared}{d:Addr}{o:Obj}{kvs:List (Key×V)}
end
section
variable {X:Cx}
end
section
variable {K:PySem.W.Frag}{Er:Exc->Hp->Prop}{S:SC}{OO OO' OO1 OO2 OO3:List (List Xs)}{σ:St}{α β γ ρ ι δ ε ζ:Type}
variable {Fd:Ends->β->Hp->Prop}[fd:FdOk Fd]{u:TS}
noncomputable def oT3 (o:OE α)(q:OE β)(t:OE γ):OE (α×β×γ):=λK h v a C=>∃ p x y z C1 C2 C3,v= .ref p/\h p=some (.tup [x,y,z])/\o K h x a.1 C1/\q K h y a.2.1 C2/\t K h z a.2.2 C3/\C=C1++(C2++C3)
instance {o:OE α}{q:OE β}{t:OE γ}[m:MonoO o][n:MonoO q][k:MonoO t]:MonoO (oT3 o q t):=⟨λs r9=>by obtain⟨p,x,y,z,C1,C2,C3,e,h,h1,h2,h3,c⟩:=r9;exact⟨p,x,y,z,C1,C2,C3,e,s _ _ h,m.mono s h1,n.mono s h2,k.mono s h3,c⟩⟩
instance {o:OE α}{q:OE β}{t:OE γ}[m:FlatO o][n:FlatO q][k:FlatO t]:FlatO (oT3 o q t):=⟨λs r9=>by obtain⟨p,x,y,z,C1,C2,C3,e,h,h1,h2,h3,c⟩:=r9;exact⟨p,x,y,z,C1,C2,C3,e,s _ _ h rfl,m.flat s h1,n.flat s h2,k.flat s h3,c⟩⟩
instance {o:OE α}{q:OE β}{t:OE γ}{ro:Enc α}{rq:Enc β}{rt:Enc γ}[m:FrzC o ro][n:FrzC q rq][k:FrzC t rt]:FrzC (oT3 o q t) (rP3 ro rq rt):=⟨λ⟨p,x,y,z,C1,C2,C3,e,h,h1,h2,h3,c⟩ s hc=>by
 subst c
 exact⟨p,x,y,z,e,s _ _ h,m.frz h1 s λc hm=>hc c (by simp[hm]),n.frz h2 s λc hm=>hc c (by simp[hm]),k.frz h3 s λc hm=>hc c (by simp[hm])⟩⟩
end
section
variable {K:PySem.W.Frag}{Er:Exc->Hp->Prop}{S:SC}{OO OO' OO1 OO2:List (List Xs)}{σ:St}{α β γ ρ ι δ ε ζ:Type}
variable {Fd:Ends->β->Hp->Prop}[fd:FdOk Fd]{u:TS}
end
section
variable {K:PySem.W.Frag}{Er:Exc->Hp->Prop}{S:SC}{OO OO' OO1 OO2:List (List Xs)}{σ:St}{α β γ ρ ι δ ε ζ:Type}
variable {Fd:Ends->β->Hp->Prop}[fd:FdOk Fd]{u:TS}
end
section
variable {K:PySem.W.Frag}{Er:Exc->Hp->Prop}{S:SC}{OO OO' OO1 OO2:List (List Xs)}{σ:St}{α β γ ρ ι δ ε ζ α1 α3 α4:Type}
variable {Fd:Ends->β->Hp->Prop}[fd:FdOk Fd]{u:TS}
end
end L2
namespace L2
open PySem
noncomputable def Inc (xs:Array Nat):Prop:=xs.toList.Pairwise (· < ·)
theorem Inc.lt {xs:Array Nat}(h:Inc xs){i j v u:Nat}(hij:i<j)(hi:xs[i]?=some v)(hj:xs[j]?=some u):v<u:=by
 rw[←Array.getElem?_toList] at hi hj
 obtain⟨a,rfl⟩:=List.getElem?_eq_some_iff.mp hi
 obtain⟨b,rfl⟩:=List.getElem?_eq_some_iff.mp hj
 exact List.pairwise_iff_getElem.mp h i j a b hij
theorem Inc.le {xs:Array Nat}(h:Inc xs){i j v u:Nat}(hij:i<=j)(hi:xs[i]?=some v)(hj:xs[j]?=some u):v<=u:=by
 rcases Nat.lt_or_eq_of_le hij with z |z
 ·exact Nat.le_of_lt (h.lt z hi hj)
 ·subst z;rw[hi] at hj;cases hj;exact Nat.le_refl _
structure TOk (t:SetTable)(led:Bool):Prop where
 inc:Inc t.place
 dum:t.dummies= #[]
 led:t.led=led
theorem TOk.fresh (f m:Nat)(led:Bool):TOk (.fresh f m led) led:=⟨List.Pairwise.nil,rfl,rfl⟩
end L2
namespace L2
open PySem PySem.Spec PyProof.Rows
theorem Gh {vs:List Value}{ms:List Int}(h:IntsAre vs ms)(k:Int):(∃v∈vs,Value.isInt k v=true)↔k∈ms:=by
 induction h with
 |nil=>simp
 |cons n t _ ih=>
  rw[List.mem_cons, ←ih]
  constructor
  ·rintro⟨v,hv,e⟩
   rcases List.mem_cons.mp hv with z |z
   ·subst z;obtain⟨t',e'⟩:=Value.isInt_shape e;cases e';exact .inl rfl
   ·exact .inr ⟨v,z,e⟩
  ·rintro(z | ⟨v,hv,e⟩)
   ·subst z;exact⟨_, .head _,beq_self_eq_true _⟩
   ·exact⟨v, .tail _ hv,e⟩
theorem UE {vs vs':List Value}(p:vs'.Perm vs):∀{ms:List Int},IntsAre vs ms->∃ms',IntsAre vs' ms'/\ms'.Perm ms:=by
 induction p with
 |nil=>intro ms h;exact⟨ms,h, .refl _⟩
 |cons x _ ih=>
  intro ms h
  cases h with
  |cons n t h=>obtain⟨m,a,b⟩:=ih h;exact⟨n::m, .cons n t a,b.cons _⟩
 |swap x y l=>
  intro ms h
  cases h with
  |cons n t h=>cases h with
   |cons m u h=>exact⟨_, .cons m u (.cons n t h), .swap ..⟩
 |trans _ _ ih1 ih2=>
  intro ms h
  obtain⟨m,a,b⟩:=ih2 h
  obtain⟨m',a',b'⟩:=ih1 a
  exact⟨m',a',b'.trans b⟩
noncomputable def dd (l:List Int):List Int:=l.foldl step_dedup []
structure SCore (prog:Program)(w:World)(es:Array (Int×Value))(t:SetTable)(ns:List Int):Prop where
 el:ElemsOf (intKind prog w) es.toList
 pm:∃ms,IntsAre (es.toList.map (·.2)) ms/\ms.Perm ns
 sz:es.size<scanBound
 fit:t.fits es.size=true
 tok:TOk t (!w.params.followText "set-order")
noncomputable def Cw (prog:Program)(w:World)(h:Heap)(a:Addr)(ns:List Int):Prop:=
 ∃o es ep t,h.get? a=some o/\o.ExactSet/\o.data= .set es ep t/\SCore prog w es t ns
section
variable {prog:Program}{w:World}{A:Around}{E:Value->Shared->Prop}{s:Shared}{a:Addr}{ns:List Int}
theorem SCore.len {es:Array (Int×Value)}{t:SetTable}(c:SCore prog w es t ns):es.size=ns.length:=by
 obtain⟨ms,a,b⟩:=c.pm
 rw[←b.length_eq, ←IntsAre.length a,List.length_map,Array.length_toList]
theorem SCore.mem {es:Array (Int×Value)}{t:SetTable}(c:SCore prog w es t ns)(k:Int):(∃e∈es.toList,Value.isInt k e.2=true)↔k∈ns:=by
 obtain⟨ms,a,b⟩:=c.pm
 rw[←b.mem_iff, ←Gh a k]
 constructor
 ·rintro⟨e,h,z⟩;exact⟨e.2,List.mem_map_of_mem h,z⟩
 ·rintro⟨v,h,z⟩
  obtain⟨e,h1,rfl⟩:=List.mem_map.mp h
  exact⟨e,h1,z⟩
theorem SCore.perm {es es':Array (Int×Value)}{t t':SetTable}(c:SCore prog w es t ns)(p:es'.toList.Perm es.toList)(f:t'.fits es'.size=true)(k:TOk t' (!w.params.followText "set-order")):SCore prog w es' t' ns:=by
 obtain⟨ms,a,b⟩:=c.pm
 obtain⟨m,a',b'⟩:=UE (p.map (·.2)) a
 have e:es'.size=es.size:=by rw[←Array.length_toList,p.length_eq,Array.length_toList]
 exact⟨c.el.perm p,⟨m,a',b'.trans b⟩,by rw[e];exact c.sz,f,k⟩
theorem Cw.put {h:Heap}{o:Obj}{es es':Array (Int×Value)}{ep:Nat}{t t':SetTable}(ho:h.get? a=some o)(hx:o.ExactSet)(hd:o.data= .set es ep t):
  (h.update a (Obj.putSet es' t')).get? a=some {o with data:=.set es' (ep+1) t'}/\(SCore prog w es' t' ns->Cw prog w (h.update a (Obj.putSet es' t')) a ns):=by
 have g:=Heap.get?_update_self (Obj.putSet es' t') ho (by rw[putSet_of es' t' hd];rfl)
 rw[putSet_of es' t' hd] at g
 exact⟨g,λc=>⟨_,_,_,_,g,hx,rfl,c⟩⟩
end
section
variable {prog:Program}{w:World}{A:Around}{E:Value->Shared->Prop}{s:Shared}
theorem Cw.at {h h':Heap}{a:Addr}{ns:List Int}(x:Cw prog w h a ns)(k:∀o,h.get? a=some o->h'.get? a=some o):Cw prog w h' a ns:=
 let ⟨o,es,ep,t,ho,r⟩:=x;⟨o,es,ep,t,k o ho,r⟩
end
section
variable {M:Model}{A:Around}{E:Value->Shared->Prop}{s:Shared}
end
section
variable {prog:Program}{w:World}{A:Around}{E:Value->Shared->Prop}{s:Shared}{a:Addr}{o:Obj}{es:Array (Int×Value)}{ep:Nat}{t:SetTable}
end
section
variable {prog:Program}{w:World}{A:Around}{E:Value->Shared->Prop}{s:Shared}{a I tp:Addr}{o:Obj}{es:Array (Int×Value)}{ep:Nat}{t:SetTable}{L:List (Int×Value)}
inductive SMode (w:World)(a:Addr)(es:Array (Int×Value))(ep:Nat)(t:SetTable)(tp:Addr)(L:List (Int×Value))(h:Heap)(i:Nat):Value->Prop
 |text (sl:Nat) (hT:w.params.followText "set-order" =true) (hL:L=(pickOrder (w.params.setOrder a ep) es).toList):SMode w a es ep t tp L h i (.int sl 0)
 |plain (sl:Nat) (hT:w.params.followText "set-order" =false) (hp:(!t.plain&&decide (es.size > 1))=false) (hL:L=es.toList) (hb:SetTable.below t.place sl=i):SMode w a es ep t tp L h i (.int sl 0)
 |drawn (ps:List Nat) (hg:h.get? tp=some {cls:=.type "tuple",data:=.seq (ps.map λi=>Value.int (i:Nat) 0).toArray}) (hn:ps.length=L.length) (hL:∀(i:Nat) pl,ps[i]?=some pl->L[i]?=es[pl]?):SMode w a es ep t tp L h i (.ref tp)
structure SIt (w:World)(I a:Addr)(es:Array (Int×Value))(ep:Nat)(t:SetTable)(tp:Addr)(L:List (Int×Value))(o:Obj)(i:Nat)(h:Heap):Prop where
 it:∃ob first,h.get? I=some ob/\ob.cls= .type "set_iterator" /\ob.data= .fields #[first, .int i 0, .ref a, .int es.size 0, .int ep 0]/\SMode w a es ep t tp L h i first
 st:h.get? a=some o
theorem SMode.at {h h':Heap}{i:Nat}{v:Value}(m:SMode w a es ep t tp L h i v)(k:∀o,h.get? tp=some o->h'.get? tp=some o):SMode w a es ep t tp L h' i v:=by
 cases m with
 |text sl hT hL=>exact .text sl hT hL
 |plain sl hT hp hL hb=>exact .plain sl hT hp hL hb
 |drawn ps hg hn hL=>exact .drawn ps (k _ hg) hn hL
end
section
variable {prog:Program}{w:World}{A:Around}{E:Value->Shared->Prop}{s:Shared}{a I tp:Addr}{o:Obj}{es:Array (Int×Value)}{ep:Nat}{t:SetTable}{L:List (Int×Value)}{ns:List Int}
theorem SIt.frame {i:Nat}{h h':Heap}(x:SIt w I a es ep t tp L o i h)(k:∀b∈[I,a,tp],∀o,h.get? b=some o->h'.get? b=some o):SIt w I a es ep t tp L o i h':=by
 obtain⟨⟨ob,f,h1,h2,h3,m⟩,h4⟩:=x
 exact⟨⟨ob,f,k I (by simp) _ h1,h2,h3,m.at λo e=>k tp (by simp) o e⟩,k a (by simp) _ h4⟩
end
section
variable {X:Cx}
end
section
variable {K:PySem.W.Frag}{Er:Exc->Hp->Prop}{S:SC}{OO:List (List Xs)}{σ:St}
variable {u:TS}{α γ ρ ι:Type}
variable {β:Type}{Fd:Ends->β->Hp->Prop}[fd:FdOk Fd]
end
section
variable {α β γ:Type}
end
section
variable {K:PySem.W.Frag}{Er:Exc->Hp->Prop}{S:SC}{OO:List (List Xs)}{σ:St}{α1 α2 α3 α4 ρ:Type}{mg:Str->Option Value}{E:XK}
end
section
variable {X:Cx}{tg:Expr}
noncomputable def G2 (K:PySem.W.Frag):R2:=λx y H Q=>∃ a b xs ys,x= .ref a/\y= .ref b/\SqT K H a xs/\SqT K H b ys/\ys≠ []/\xs.length+ys.length<=sizeLine/\
 (xs=[]->Q (.ref b) H)/\(xs≠ []->∀p,H p=none->Q (.ref p) (upd H p (.tup (xs++ys))))
theorem Gi (K:PySem.W.Frag)(hK:X.K=K):OpR X (binaryOp .Add) (G2 K):=by
 subst hK
 intro pins s σ H x y v u Q I rx ry h
 obtain⟨a,b,xs,ys,e1,e2,ha,hb,hy,hz,q1,q2⟩:=h
 by_cases hx:xs=[]
 ·subst e1 e2
  cases rx
  cases ry
  obtain⟨its,r1,p1,_⟩:=I.tuple ha
  obtain⟨its2,r2,p2,_⟩:=I.tuple hb
  obtain⟨⟨cls,dd,data,sl⟩,ho,hc,n,hd⟩:=id p1
  obtain⟨⟨cls2,dd2,data2,sl2⟩,ho2,hc2,n2,hd2⟩:=id p2
  simp only at hc hd hc2 hd2
  subst hc hd hc2 hd2
  have e0:its=[]:=r1.nil_iff.mpr hx
  exact concat_meets ⟨_,ho,rfl⟩ ⟨_,ho2,rfl⟩ noFill_tuple_add seq_tuple_add PySem.F.slot_tuple_add PySem.F.entry_tuple_add (PySem.F.args_tuple_add_2 _ _)
   (tuple_addW0 a b its.toArray its2.toArray n n2 dd dd2 sl sl2 (by simp[e0])) ⟨ho,ho2,⟨.ref b,H,I,rfl,q1 hx⟩⟩
 ·exact KB pins s σ H x y v u Q I rx ry ⟨a,b,xs,ys,e1,e2,ha,hb,hx,hz,λz=>absurd z hy,λ_=>q2 hx⟩
end
section
variable {K:PySem.W.Frag}{Er:Exc->Hp->Prop}{S:SC}{OO OO':List (List Xs)}{σ:St}{α β γ:Type}
theorem Gn {ta tb:TE}{r:Enc α}[z:MonoE r]{ma mb:Rs (List α)}(ha:EvB K Er S OO σ ta (rPL r) ma)(hb:EvB K Er S OO σ tb (rPL r) mb):EvB K Er S OO σ (tOp (G2 K) ta tb) (rPL r) (ma.bind λas=>mb.bind λbs=>chk (0<bs.length/\as.length+bs.length<=sizeLine) (.ok (as++bs))):=λH Q w s P=>
 ha.run w s FB.tr P λas x H1 s1 w1 q1 ⟨p,xs,e,q,pr⟩ P1=>hb.run w1 q1 FB.tr P1 λbs y H2 s2 w2 q2 ⟨p',ys,e',q',pr'⟩ P2=>by
  obtain⟨⟨h1,h2⟩,P3⟩:=PZ.chk P2
  have hl:=Paired.len pr
  have hl':=Paired.len pr'
  have pr2:Paired (r K H2) xs as:=Paired.imp2 (λ_ _ h=>z.mono s2 h) pr
  refine⟨p,p',xs,ys,e,e',SqT.of (s2 _ _ q),SqT.of q',λz=>by rw[z] at hl';simp at hl';omega,by rw[hl,hl'];exact h2,λhz=>?_,λ_ a ha=>P3 _ _ (XA ha _) ⟨a,_,rfl,XU,Paired.imp2 (λ_ _ h=>z.mono (XA ha _) h) (Paired.app pr2 pr')⟩⟩
  subst hz
  have ha:as=[]:=List.length_eq_zero_iff.mp (by rw[←hl];rfl)
  subst ha
  exact P3 _ H2 (Xn.refl _) ⟨p',ys,rfl,q',pr'⟩
theorem P3.reverse {δ:Type}{F:α->γ->δ->Prop}:∀{l m n},P3 F l m n->P3 F l.reverse m.reverse n.reverse:=λp=>by
 induction p with
 |nil=>exact .nil
 |cons r _ ih=>rw[List.reverse_cons,List.reverse_cons,List.reverse_cons];exact ih.snoc r
variable {u:TS}{Fd:Ends->β->Hp->Prop}[fd:FdOk Fd]
end
section
variable {K:PySem.W.Frag}{Er:Exc->Hp->Prop}{S:SC}{OO:List (List Xs)}{σ:St}{α β γ ι:Type}{u:TS}{Fd:Ends->β->Hp->Prop}[fd:FdOk Fd]
end
section
variable {K:PySem.W.Frag}{Er:Exc->Hp->Prop}{S:SC}{OO:List (List Xs)}{σ:St}{α β:Type}
end
noncomputable def Eg (A:Around)(s:Shared)(v u:Value)(b:Bool):Prop:=
 ∀(prog:Program) (w:World) (E:Value->Shared->Prop) (Q:Value->Shared->Prop),Q (.bool b) s->wpAny (model prog w) A (richCompare .Lt v u) Q E s
structure LtOk {α:Type}(r:Enc α)(lt:α->α->Bool)(d:Nat):Prop where
 at':∀{X:Cx}{pins:List (Addr×Obj)}{σ:St}{H:Hp}{s:Shared}{x y:V}{v u:Value}{a b:α}{A:Around},Inv X pins σ H s->XV x v->XV y u->r X.K H x a->r X.K H y b->A.units+d<cLine->Eg A s v u (lt a b)
noncomputable def ltI (a b:Int):Bool:=decide (a<b)
theorem lt_int:LtOk Xg ltI 0:=⟨fun {X pins σ H s x y v u a b A} I rx ry h1 h2 _ prog w E Q q=>by
 have e1:x=V.int a:=h1
 have e2:y=V.int b:=h2
 subst e1 e2
 obtain⟨t,rfl⟩:=rx
 obtain⟨t',rfl⟩:=ry
 exact CmpOf.ints_lt (P:=λj v=>∃ t,v= .int (if j=0 then a else b) t) (λj=>if j=0 then a else b) (λ_ _ h=>h) 0 1 _ _ _ _ _ ⟨t,rfl⟩ ⟨t',rfl⟩ q⟩
section
variable {α:Type}[DecidableEq α]{r:Enc α}{lt:α->α->Bool}{d:Nat}
theorem LtOk.imp {q:Enc α}(L:LtOk r lt d)(h:∀{K:PySem.W.Frag}{H:Hp}{v:V}{a:α},q K H v a->r K H v a):LtOk q lt d:=⟨λI rx ry h1 h2 hu=>L.at' I rx ry (h h1) (h h2) hu⟩
end
section
variable {α:Type}
noncomputable def kp (kf:Value->α)(d:α)(xs:Array Keyed)(i:Nat):α:=(xs[i]?.map λp=>kf p.1).getD d
structure Ord (lt:α->α->Bool):Prop where
 irr:∀a,lt a a=false
 tr:∀{a b c},lt a b=true->lt b c=true->lt a c=true
structure SB (κ:SortKind)(a0:Array Keyed)(st:SortSt):Prop where
 perm:(arrOf st).Perm a0
 kind:kindOf st=κ
 failed:failedOf st=none
 pend:pendingOf st= #[]
theorem SB.size {κ:SortKind}{a0:Array Keyed}{st:SortSt}(h:SB κ a0 st):(arrOf st).size=a0.size:=h.perm.size_eq
structure Asks (prog:Program)(w:World)(A:Around)(E:Value->Shared->Prop)(s:Shared)(κ:SortKind)(lt:α->α->Bool)(kf:Value->α)(d:α)(a0:Array Keyed):Prop extends Ord lt where
 ask:∀{st:SortSt}{i j:Nat}{Q:Option Bool->SortSt->Prop},SB κ a0 st->i<a0.size->j<a0.size->Q (some (lt (kp kf d (arrOf st) i) (kp kf d (arrOf st) j))) st->wpS (model prog w) A E s (ltAt' i j) Q st
 two:∀{st:SortSt}{i j:Nat},SB κ a0 st->i<a0.size->j<a0.size->i≠j->lt (kp kf d (arrOf st) i) (kp kf d (arrOf st) j)=true∨lt (kp kf d (arrOf st) j) (kp kf d (arrOf st) i)=true
variable {prog:Program}{w:World}{A:Around}{E:Value->Shared->Prop}{s:Shared}{κ:SortKind}{lt:α->α->Bool}{kf:Value->α}{d:α}{a0:Array Keyed}
noncomputable def Ris (lt:α->α->Bool)(k:Nat->α)(n:Nat):Prop:=∀ i j,i<j->j<n->lt (k i) (k j)=true
noncomputable def Fal (lt:α->α->Bool)(k:Nat->α)(n:Nat):Prop:=∀ i j,i<j->j<n->lt (k j) (k i)=true
theorem Ris.more (O:Ord lt){k:Nat->α}{n:Nat}(h:Ris lt k n)(q:0<n->lt (k (n-1)) (k n)=true):Ris lt k (n+1):=λi j hij hj=>by
 rcases Nat.lt_or_ge j n with z |z
 ·exact h i j hij z
 ·have e:j=n:=by omega
  subst e
  rcases Nat.lt_or_ge i (j-1) with y |y
  ·exact O.tr (h i (j-1) y (by omega)) (q (by omega))
  ·rw[show i=j-1 by omega];exact q (by omega)
theorem Fal.more (O:Ord lt){k:Nat->α}{n:Nat}(h:Fal lt k n)(q:0<n->lt (k n) (k (n-1))=true):Fal lt k (n+1):=λi j hij hj=>by
 rcases Nat.lt_or_ge j n with z |z
 ·exact h i j hij z
 ·have e:j=n:=by omega
  subst e
  rcases Nat.lt_or_ge i (j-1) with y |y
  ·exact O.tr (q (by omega)) (h i (j-1) y (by omega))
  ·rw[show i=j-1 by omega];exact q (by omega)
theorem Asks.other (L:Asks prog w A E s κ lt kf d a0){st:SortSt}{i j:Nat}(B:SB κ a0 st)(hi:i<a0.size)(hj:j<a0.size)(n:i≠j)(h:lt (kp kf d (arrOf st) i) (kp kf d (arrOf st) j)=false):lt (kp kf d (arrOf st) j) (kp kf d (arrOf st) i)=true:=(L.two B hi hj n).resolve_left (by rw[h];decide)
end
section
variable {α β γ:Type}
theorem Ko {f:α->β}{l' k:List β}(h:l'.Perm k):∀{l:List α},k=l.map f->∃m:List α,m.Perm l/\m.map f=l':=by
 induction h with
 |nil=>intro l e;cases l with
  |nil=>exact⟨[], .nil,rfl⟩
  |cons a l=>cases e
 |cons x _ ih=>intro l e;cases l with
  |nil=>cases e
  |cons a l=>
   injection e with e1 e2
   obtain⟨m,hm,em⟩:=ih e2
   exact⟨a::m,hm.cons a,by rw[List.map_cons,em,e1]⟩
 |swap x y t=>intro l e;cases l with
  |nil=>cases e
  |cons a l=>cases l with
   |nil=>cases e
   |cons b l=>
    injection e with e1 e2
    injection e2 with e2 e3
    exact⟨b::a::l, .swap ..,by rw[List.map_cons,List.map_cons,e1,e2,e3]⟩
 |trans _ _ ih1 ih2=>
  intro l e
  obtain⟨m2,h2,e2⟩:=ih2 e
  obtain⟨m1,h1,e1⟩:=ih1 e2.symm
  exact⟨m1,h1.trans h2,e1⟩
section
variable [DecidableEq α]{lt:α->α->Bool}
end
end
section
variable {prog:Program}{w:World}{A:Around}{E:Value->Shared->Prop}{s:Shared}{α:Type}
end
section
variable {X:Cx}{β:Type}[DecidableEq β]{r:Enc β}{lt:β->β->Bool}{d:Nat}
end
section
variable {X:Cx}{α:Type}
end
section
variable {K:PySem.W.Frag}{Er:Exc->Hp->Prop}{S:SC}{OO OO':List (List Xs)}{σ:St}{α β γ δ:Type}
theorem P3.tri {F:α->β->γ->Prop}:∀{l m n},P3 F l m n->∃T:List (α×β×γ),T.map (·.1)=l/\T.map (·.2.1)=m/\T.map (·.2.2)=n/\∀t∈T,F t.1 t.2.1 t.2.2:=λp=>by
 induction p with
 |nil=>exact⟨[],rfl,rfl,rfl,λt h=>nomatch h⟩
 |cons r _ ih=>
  obtain⟨T,e1,e2,e3,h⟩:=ih
  exact⟨(_,_,_)::T,by rw[List.map_cons,e1],by rw[List.map_cons,e2],by rw[List.map_cons,e3],λt ht=>(List.mem_cons.mp ht).elim (λz=>z▸r) (h t)⟩
theorem P3.oft {F:α->β->γ->Prop}:∀{T:List (α×β×γ)},(∀t∈T,F t.1 t.2.1 t.2.2)->P3 F (T.map (·.1)) (T.map (·.2.1)) (T.map (·.2.2)):=fun {T}=>by
 induction T with
 |nil=>intro _;exact .nil
 |cons t T ih=>intro h;exact .cons (h t List.mem_cons_self) (ih λu hu=>h u (List.mem_cons_of_mem _ hu))
theorem F9 {a a':List α}{b b':List β}(h:a.zip b=a'.zip b')(h1:a.length=b.length)(h2:a'.length=b'.length):a=a'/\b=b':=by
 have e1:=congrArg (List.map Prod.fst) h
 have e2:=congrArg (List.map Prod.snd) h
 rw[List.map_fst_zip (by omega),List.map_fst_zip (by omega)] at e1
 rw[List.map_snd_zip (by omega),List.map_snd_zip (by omega)] at e2
 exact⟨e1,e2⟩
theorem P3.perm {F:α->β->γ->Prop}{l zs:List α}{m bs:List β}{n:List γ}(p:P3 F l m n)(h:(zs.zip bs).Perm (l.zip m))(hl:zs.length=bs.length):∃n',P3 F zs bs n'/\n'.Perm n:=by
 obtain⟨T,e1,e2,e3,hT⟩:=p.tri
 have ez:T.map (λt=>(t.1,t.2.1))=l.zip m:=by rw[←e1, ←e2,List.zip_map']
 obtain⟨T',hp,e⟩:=Ko h ez.symm
 have:(T'.map (·.1)).zip (T'.map (·.2.1))=zs.zip bs:=by rw[List.zip_map'];exact e
 obtain⟨f1,f2⟩:=F9 this (by simp) hl
 refine⟨T'.map (·.2.2),?_,by rw[←e3];exact hp.map _⟩
 rw[←f1, ←f2]
 exact P3.oft λt ht=>hT t (hp.mem_iff.mp ht)
end
section
variable {K:PySem.W.Frag}{Er:Exc->Hp->Prop}{S:SC}{OO OO':List (List Xs)}{σ:St}{α β:Type}{u:TS}{Fd:Ends->β->Hp->Prop}[fd:FdOk Fd]
end
section
variable {K:PySem.W.Frag}{Er:Exc->Hp->Prop}{S:SC}{OO OO':List (List Xs)}{σ:St}{α1 α2 β ρ:Type}{u:TS}
theorem W.one {H:Hp}(w:W OO H):W [OO.flatten] H:=w.of (by simp)
end
section
variable {K:PySem.W.Frag}{Er:Exc->Hp->Prop}{S:SC}{OO OO':List (List Xs)}{σ:St}{α α2 β γ ρ:Type}
variable {Fd:Ends->β->Hp->Prop}[fd:FdOk Fd]{u:TS}
end
section
variable {prog:Program}{w:World}{A:Around}{E:Value->Shared->Prop}{s:Shared}
end
section
variable {X:Cx}
end
section
variable {K:PySem.W.Frag}{Er:Exc->Hp->Prop}{S:SC}{OO OO':List (List Xs)}{σ:St}{α β γ:Type}
end
section
variable {X:Cx}{α:Type}{r:Enc α}{lt:α->α->Bool}{d:Nat}
end
section
variable {K:PySem.W.Frag}{Er:Exc->Hp->Prop}{S:SC}{OO OO':List (List Xs)}{σ:St}{α:Type}
end
section
variable {X:Cx}{pins:List (Addr×Obj)}{σ:St}{H:Hp}{s0:Shared}
noncomputable def FG (X:Cx)(g:Heap)(d:Addr)(xs:List (List Key×Addr×Value)):Prop:=∃ o es ep,g.get? d=some o/\o.ExactDict/\o.data= .dict es ep/\es.toList=xs.map (entryOfKey (tupleKind (Yi X.prog X.w)))/\(xs.map (·.1)).Nodup
theorem FG.h {g:Heap}{tk:Nat}{d:Addr}{acc:List (List Key×V)}{xs:List (List Key×Addr×Value)}(D:FG X g d xs)(I:Inv X pins σ H {s0 with heap:=g,toks:=tk})(r:KT H acc xs):g.DictOfH (tupleKind (Yi X.prog X.w)) d xs:=by
 obtain⟨o,es,ep,h1,h2,h3,h4,h5⟩:=D
 refine⟨o,es,ep,h1,h2,h3,h4,λx hx=>?_,h5⟩
 have all:∀{l:List (List Key×V)}{m:List (List Key×Addr×Value)},KT H l m->∀x∈m,(tupleKind (Yi X.prog X.w)).is g x.1 x.2.1:=by
  intro l m q
  induction q with
  |nil=>intro x hx;exact nomatch hx
  | @cons p q ps qs hq t ih=>
   intro x hx
   rcases List.mem_cons.mp hx with e |hx
   ·subst e
    exact DT I.hok (by rw[←hq.1];exact hq.2.1)
   ·exact ih x hx
 exact all r x hx
theorem FG.of {g:Heap}{d:Addr}{xs:List (List Key×Addr×Value)}(D:g.DictOfH (tupleKind (Yi X.prog X.w)) d xs):FG X g d xs:=by
 obtain⟨o,es,ep,h1,h2,h3,h4,_,h5⟩:=D
 exact⟨o,es,ep,h1,h2,h3,h4,h5⟩
theorem FG.at {g g':Heap}{d:Addr}{xs:List (List Key×Addr×Value)}(D:FG X g d xs)(k:∀o,g.get? d=some o->g'.get? d=some o):FG X g' d xs:=by
 obtain⟨o,es,ep,h1,r⟩:=D
 exact⟨o,es,ep,k o h1,r⟩
end
section
variable {K:PySem.W.Frag}{Er:Exc->Hp->Prop}{S:SC}{OO OO':List (List Xs)}{σ:St}{α β γ:Type}
end
section
variable {K:PySem.W.Frag}{Er:Exc->Hp->Prop}{S:SC}{OO:List (List Xs)}{σ:St}{α1 α2 α3 α4 α5 ρ:Type}{mg:Str->Option Value}{E:XK}
end
section
variable {X:Cx}{o e:Expr}{es:List Expr}{to:TE}{t:TA}{name:Str}{apos cpos:Pos}{id:String}{r:V->List V->Hp->VK->Prop}
end
section
variable {K:PySem.W.Frag}{Er:Exc->Hp->Prop}{S:SC}{OO:List (List Xs)}{σ:St}
end
section
variable {α β γ δ:Type}{K:PySem.W.Frag}{Er:Exc->Hp->Prop}{S:SC}{OO:List (List Xs)}{σ:St}{Fd:Ends->β->Hp->Prop}[fd:FdOk Fd]{u:TS}
end
end L2
namespace HT
open PySem PySem.Spec PyProof PyProof.Rows
section
variable {prog:Program}{w:World}{A:Around}{E:Value->Shared->Prop}{s:Shared}
end
end HT
namespace L2
open PySem PySem.Spec PyProof.Rows
section
variable {X:Cx}{e:Expr}{te:TE}
end
section
variable {α β:Type}{K:PySem.W.Frag}{Er:Exc->Hp->Prop}{S:SC}{OO:List (List Xs)}{σ:St}
end
section
variable {α β:Type}{K:PySem.W.Frag}{Er:Exc->Hp->Prop}{S:SC}{OO:List (List Xs)}{σ:St}{Fd:Ends->β->Hp->Prop}[fd:FdOk Fd]{u:TS}
end
section
variable {K:PySem.W.Frag}{Er:Exc->Hp->Prop}{S:SC}{OO OO' OO2:List (List Xs)}{σ:St}{α β γ ρ ι:Type}{mg:Str->Option Value}{E:XK}{u:TS}
end
section
variable {α:Type}
structure SBk (κ:SortKind)(a₀:Array Keyed)(st:SortSt):Prop where
 perm:(arrOf st).Perm a₀
 kind:kindOf st=κ
 failed:failedOf st=none
 pend:pendingOf st= #[]
theorem SBk.size {κ:SortKind}{a₀:Array Keyed}{st:SortSt}(h:SBk κ a₀ st):(arrOf st).size=a₀.size:=h.perm.size_eq
structure AskK (prog:Program)(w:World)(A:Around)(E:Value->Shared->Prop)(s:Shared)(lt:α->α->Bool)(kf:Value->α)(d:α)(a0:Array Keyed)(κ:SortKind):Prop extends Ord lt where
 ask:∀{st:SortSt}{i j:Nat}{Q:Option Bool->SortSt->Prop},SBk κ a0 st->i<a0.size->j<a0.size->Q (some (lt (kp kf d (arrOf st) i) (kp kf d (arrOf st) j))) st->wpS (model prog w) A E s (ltAt' i j) Q st
 two:∀{st:SortSt}{i j:Nat},SBk κ a0 st->i<a0.size->j<a0.size->i≠j->lt (kp kf d (arrOf st) i) (kp kf d (arrOf st) j)=true∨lt (kp kf d (arrOf st) j) (kp kf d (arrOf st) i)=true
variable {prog:Program}{w:World}{A:Around}{E:Value->Shared->Prop}{s:Shared}{lt:α->α->Bool}{kf:Value->α}{d:α}{a0:Array Keyed}{κ:SortKind}
theorem AskK.other (L:AskK prog w A E s lt kf d a0 κ){st:SortSt}{i j:Nat}(B:SBk κ a0 st)(hi:i<a0.size)(hj:j<a0.size)(n:i≠j)(h:lt (kp kf d (arrOf st) i) (kp kf d (arrOf st) j)=false):lt (kp kf d (arrOf st) j) (kp kf d (arrOf st) i)=true:=(L.two B hi hj n).resolve_left (by rw[h];decide)
end
section
variable {prog:Program}{w:World}{A:Around}{E:Value->Shared->Prop}{s:Shared}{α:Type}
end
section
variable {X:Cx}
end
section
variable {prog:Program}{w:World}{A:Around}{E:Value->Shared->Prop}{s:Shared}
end
section
variable {X:Cx}{o:Expr}{lo hi:Option Expr}{pos p2:Pos}{to:TE}{tl th:TO}
end
section
variable {X:Cx}{pins:List (Addr×Obj)}{σ:St}{H G:Hp}{s:Shared}{h':Heap}
end
section
variable {X:Cx}{l:Expr}{tl:TE}{pos npos apos cpos:Pos}
end
section
variable {X:Cx}
end
inductive Mx where
 |i (n:Int) |s (x:Str) |b (v:Bool)
 deriving DecidableEq
noncomputable def Mx.v:Mx->V
 | .i n=>.int n
 | .s x=>.str x
 | .b v=>.bl v
noncomputable def rMx:Enc Mx:=λ_ _ v m=>v=m.v
instance:FlatE rMx:=⟨λ_ h=>h⟩
noncomputable def mxI:Mx->Rs Int
 | .i n=>.ok n
 |_=>.bad
noncomputable def mxS:Mx->Rs Str
 | .s x=>.ok x
 |_=>.bad
noncomputable def mxB:Mx->Rs Bool
 | .b v=>.ok v
 |_=>.bad
section
variable {K:PySem.W.Frag}{Er:Exc->Hp->Prop}{S:SC}{OO OO' OO1 OO2 OO3:List (List Xs)}{σ:St}{α β γ δ ρ:Type}{u:TS}
theorem Qv {te:TE}{m:Rs Mx}(he:EvB K Er S OO σ te rMx m):EvB K Er S OO σ te Xg (m.bind mxI):=λH Q w s P=>by
 refine he H Q w s ?_
 cases m with
 |bad=>exact P
 |err x=>exact P
 |ok a=>cases a with
  |i n=>exact λv H' s' ho=>P v H' s' ho
  |s x=>exact P.elim
  |b x=>exact P.elim
theorem ZI {te:TE}{m:Rs Mx}(he:EvB K Er S OO σ te rMx m):EvB K Er S OO σ te Xm (m.bind mxS):=λH Q w s P=>by
 refine he H Q w s ?_
 cases m with
 |bad=>exact P
 |err x=>exact P
 |ok a=>cases a with
  |i n=>exact P.elim
  |s x=>exact λv H' s' ho=>P v H' s' ho
  |b x=>exact P.elim
theorem Dy {te:TE}{m:Rs Mx}(he:EvB K Er S OO σ te rMx m):EvB K Er S OO σ te Xx (m.bind mxB):=λH Q w s P=>by
 refine he H Q w s ?_
 cases m with
 |bad=>exact P
 |err x=>exact P
 |ok a=>cases a with
  |i n=>exact P.elim
  |s x=>exact P.elim
  |b x=>exact λv H' s' ho=>P v H' s' ho
theorem QR {te:TE}{m:Rs Int}(he:EvS K Er S OO σ te Xg m):EvS K Er S OO σ te rMx (m.bind λa=>.ok (.i a)):=λH Q w s P=>by
 refine he H Q w s ?_
 cases m with
 |bad=>exact P
 |err x=>exact P
 |ok a=>exact P
theorem Jr {te:TE}{m:Rs Str}(he:EvS K Er S OO σ te Xm m):EvS K Er S OO σ te rMx (m.bind λa=>.ok (.s a)):=λH Q w s P=>by
 refine he H Q w s ?_
 cases m with
 |bad=>exact P
 |err x=>exact P
 |ok a=>exact P
theorem UT {te:TE}{m:Rs Bool}(he:EvS K Er S OO σ te Xx m):EvS K Er S OO σ te rMx (m.bind λa=>.ok (.b a)):=λH Q w s P=>by
 refine he H Q w s ?_
 cases m with
 |bad=>exact P
 |err x=>exact P
 |ok a=>exact P
theorem BH {H:Hp}{xs:List V}{l:List Int}(pr:Paired (Xg K H) xs l):Paired (rMx K H) xs (l.map Mx.i):=by
 induction pr with
 |nil=>exact .nil
 |cons r _ ih=>exact .cons r ih
theorem GH {te:TE}{m:Rs (List Int)}(he:EvB K Er S OO σ te (rPL Xg) m):EvB K Er S OO σ te (rPL rMx) (m.bind λl=>.ok (l.map Mx.i)):=λH Q w s P=>by
 refine he H Q w s ?_
 cases m with
 |bad=>exact P
 |err x=>exact P
 |ok l=>
  rintro v H' s' ⟨p,xs,e,h,pr⟩
  exact P v H' s' ⟨p,xs,e,h,BH pr⟩
end
section
variable {K:PySem.W.Frag}{Er:Exc->Hp->Prop}{S:SC}{OO OO' OO1 OO2 OO3:List (List Xs)}{σ:St}{α β γ δ ρ ι:Type}{α1 α2 α3 α4 α5:Type}{u:TS}
variable {Fd:Ends->β->Hp->Prop}[fd:FdOk Fd]
theorem EvP.st {t:TO}{m:Rs (Option Int)}(he:EvP Er S OO σ t m){H:Hp}{D:Ends}{Q:Option Int->Hp->Prop}(w:W OO H)(s:S.p (hid H OO)){f:Option Int->Rs β}(P:PZ Er (Fd D) (hid H OO) (m.bind f))
  (hk:∀a H',Xn H H'->W OO H'->S.p (hid H' OO)->PZ Er (Fd D) (hid H' OO) (f a)->Q a H'):t σ H Q:=by
 refine he H Q w s ?_
 cases m with
 |bad=>exact P
 |err x=>exact λH' s'=>P H' (Xv.trans s')
 |ok a=>exact λH' s'=>hk a H' s' (w.keep s') (S.mono _ _ (Xi s') s) (PZ.tr (fd.tr D) (Xi s') P)
theorem QV {ta:TE}{m:Rs (Str×Str)}(ha:EvB K Er S OO σ ta (rP2 Xm Xm) m):EvB K Er S OO σ ta (rPL Xm) (m.bind λp=>.ok [p.1,p.2]):=λH Q w s P=>
 ha.run w s FB.tr P λa x H1 s1 w1 q1 r9 P1=>by obtain⟨p,x1,x2,e,q,h1,h2⟩:=r9;exact P1 _ H1 (Xn.refl _) ⟨p,_,e,q, .cons h1 (.cons h2 .nil)⟩
section
variable {o:OE ρ}{kf:Nat}{Cf:List Xs}{J:Jn γ ι}
end
end
section
variable {K:PySem.W.Frag}{Er:Exc->Hp->Prop}{S:SC}{OO:List (List Xs)}{σ:St}{α β γ ρ ι:Type}{u:TS}{Fd:Ends->β->Hp->Prop}[fd:FdOk Fd]
end
section
variable {K:PySem.W.Frag}{Er:Exc->Hp->Prop}{S:SC}{OO OO':List (List Xs)}{σ:St}{α1 α2 α3 β ρ:Type}{u:TS}
end
noncomputable def TrD (h base:Heap)(e:Addr)(cls:Value)(od:Option Addr)(fl:Value):Prop:=
 ∃oe vs T oT ts,h.get? e=some oe/\(oe.cls=cls/\oe.dict=od)/\oe.data= .fields vs/\vs[1]?=some (.ref T)/\base.get? T=none/\T≠e/\h.get? T=some oT/\oT.data= .fields ts/\ts[3]?=some fl
structure FyD (base:Heap)(l:List Env)(e:Addr)(cls:Value)(od:Option Addr)(fl:Value)(h:Heap):Prop where
 stay:base.StaysIn h
 new:base.get? e=none
 frames:h.FunFrames base l
 tr:TrD h base e cls od fl
section
variable {M:Model}{A:Around}{E:Value->Shared->Prop}{s:Shared}{base:Heap}{env:Env}{outer l:List Env}{L e:Addr}{oe:Obj}{vs:Array Value}{head cls fl:Value}{od:Option Addr}{Q:Unit->Shared->Prop}
end
structure FlD (h0 h:Heap)(H:Hp)(a T:Addr)(cls:Value)(od:Option Addr):Prop where
 na:h0.get? a=none
 nT:h0.get? T=none
 fa:H a=none
 fT:H T=none
 ne:T≠a
 obj:∃oe vs oT ts,h.get? a=some oe/\(oe.cls=cls/\oe.dict=od)/\oe.data= .fields vs/\vs[1]?=some (.ref T)/\h.get? T=some oT/\oT.data= .fields ts/\ts[3]?=some Value.none
section
variable {P:Program}{w:World}{h0 h h' base:Heap}{H:Hp}{a T:Addr}{cls:Value}{od:Option Addr}{l:List Env}
theorem FlD.fly (x:FlD h0 h H a T cls od)(hl:h.FunFrames base l):FyD (Ku h (frs l) a T) l a cls od .none h:=by
 obtain⟨oe,vs,oT,ts,ha,hc,hd,h1,hT,hdT,h3⟩:=x.obj
 exact⟨λb o e=>(QT e).1,Yu (.inr (.inl rfl)),Jo hl λb hb=>Yu (.inl hb),oe,vs,T,oT,ts,ha,hc,hd,h1,Yu (.inr (.inr rfl)),x.ne,hT,hdT,h3⟩
theorem FlD.after (x:FlD h0 h H a T cls od)(hl:h.FunFrames base l)(hfn:∀b∈frs l,H b=none)(hok:HOk P w H h)(th:∀b o,h0.get? b=some o->∃o',h.get? b=some o')
  (fy:FyD (Ku h (frs l) a T) l a cls od .none h')(up:h.UpToSlots h'):∃T',FlD h0 h' H a T' cls od/\HOk P w H h'/\Un (frs l) [a,T] H H h h':=by
 obtain⟨st,_,_,oe,vs,T',oT,ts,ha,hc,hd,h1,hnT,hne,hT,hdT,h3⟩:=fy
 have key:T'=T∨h.get? T'=none:=by
  cases q:h.get? T' with
  |none=>exact .inr rfl
  |some o=>
   by_cases hf:T'∈frs l
   ·obtain⟨_,o2,ho2,hd2⟩:=hl.mem hf
    obtain⟨sl,e2⟩:=up T' o2 ho2 hd2
    rw[hT] at e2;cases e2
    exact absurd hdT (hd2 ts)
   ·by_cases hz:T'=T
    ·exact .inl hz
    ·rw[Y4 q hf hne hz] at hnT;cases hnT
 have keep:∀b o,b∉frs l->b≠a->b≠T->h.get? b=some o->h'.get? b=some o:=λb o n1 n2 n3 e=>st b o (Y4 e n1 n2 n3)
 refine⟨T',⟨x.na,?_,x.fa,?_,hne,oe,vs,oT,ts,ha,hc,hd,h1,hT,hdT,h3⟩,hok.traced hfn x.fa x.fT keep,Un.traced hl keep up⟩
 ·rcases key with e |e
  ·rw[e];exact x.nT
  ·cases q:h0.get? T' with
   |none=>rfl
   |some o=>obtain⟨o',e'⟩:=th _ _ q;rw[e] at e';cases e'
 ·rcases key with e |e
  ·rw[e];exact x.fT
  ·exact hok.un0 e
end
section
variable {P:Program}{w:World}{K:PySem.W.Frag}{mg:Str->Option Value}{base:Heap}{N:List Str}{qual:Str}{scope:Scope}{f:Addr}{cd:Value}{A:Around}{outer:List Env}{s0:Shared}{H0:Hp}{E:XK}
end
section
variable {X:Cx}{k j:Nat}{x:Str}{ps:List Str}{sp:Sp}{e:Expr}{es:List Expr}{t:TA}{p pos:Pos}{E:XK}
end
end L2
namespace L2
open PySem PySem.Spec PyProof.Rows PySem.W PySem.Builtin PySem.Builtin.ObjectAttr
section
variable {prog:Program}{w:World}{A:Around}{E:Value->Shared->Prop}{K:Frag}{x C P:Addr}{s:Shared}{cd:ClassData}{vs:Array Value}{sl:Array (Option Value)}{name:Str}{v:Value}
theorem getD {expr:Bool}{Q:Value->Shared->Prop}{dx:Addr}{mA:Str->Option Value}(X:K.In s.heap)(hx:s.heap.get? x=some ⟨.ref C,some dx, .fields vs,sl⟩)(hns:s.heap.Ns1 dx mA)(hv:mA name=some v)(hh:handedIn v=true)
  (ga:findIn K (.ref C) "__getattribute__" =some (some (.builtin "BaseException.__getattribute__")))(gh:findIn K (.ref C) "__getattr__" =some none)(mb:mroIn K C (.type "BaseException")=some true)(hd:hasDictIn K C=true)(hn:findIn K (.ref C) name=some none)
  (h:Q v {s with toks:=s.toks+1}):wpAny (model prog w) A (getAttr (.ref x) name expr) Q E s:=by
 obtain⟨hh',g,d,t,os⟩:=s
 obtain⟨oD,es,ep,hoD,hdD,hks,hnd,hfi⟩:=id hns
 have I:InstAt hh' x ⟨.ref C,some dx, .fields vs,sl⟩ C (some oD):=⟨hx,rfl,rfl,hoD⟩
 have hl:lookIn name oD=some (some v):=by
  unfold lookIn
  rw[hdD]
  have q:=hfi name
  rw[hv] at q
  unfold nsFind findBy at q
  rw[←Array.find?_toList] at q
  dsimp only
  cases z:List.find? (λx=>x.key.isStr name) es.toList with
  |none=>rw[z] at q;cases q
  |some en=>rw[z] at q;exact congrArg some q
 have L0:=I.type (M:=model prog w)
 have L1:=looks_findIn (M:=model prog w) X ga
 have L2:=looks_findIn (M:=model prog w) X gh
 have LB:=looks_mroIn (M:=model prog w) X mb
 have LF:=looks_find (M:=model prog w) X I (findObj_own hd hn rfl hl)
 have f3:=PySem.F.attr_ValueError.ga.bind (.ref x)
 have hx2:(Value.builtin "BaseException.__getattribute__" ==Value.builtin "object.__getattribute__")=false:=by decide+kernel
 unfold getAttr getAttrBy
 refine wpAny_bind (wpAny_mkText (wpAny_holding (wpAny_bind (L0.at (wpAny_bind (L1.at ?_))))))
 dsimp only
 rw[hx2,Bool.and_false,if_neg Bool.false_ne_true]
 unfold getAttrByItsOwn hookBefore callGetattribute boundAndCalled
 refine wpAny_bind (L2.at ?_)
 have hx0:(expr&&onTheHeap (Value.builtin "BaseException.__getattribute__"))=false:=by cases expr<;> rfl
 refine wpAny_bind (wpAny_attempt (wpAny_holding ?_))
 rw[hx0,if_neg Bool.false_ne_true,f3]
 refine wpAny_bind (wpAny_pure ?_)
 refine wpAny_call (codeAny_call_builtin PySem.F.attr_ValueError.ga.plain PySem.F.entry_bexc_ga ?_)
 have hk:builtinKind "BaseException.__getattribute__" =some .slot:=by decide+kernel
 have hsplit:splitId "BaseException.__getattribute__" =some ("BaseException","__getattribute__"):=by decide+kernel
 have ha:=PySem.F.args_bexc_ga (.ref x) (Value.str name t)
 simp only[checkBuiltinCall,hk,hsplit]
 unfold isInstance
 refine wpAny_bind (wpAny_bind (L0.at ?_))
 refine LB.at ?_
 rw[if_neg (by decide)]
 have fin:∀s1:Shared,s1=⟨hh',g,d,t+1,os⟩->wpAny (model prog w) A.in1 («object.__getattribute__» {pos:=[Value.ref x]++[Value.str name t]}) (λfin s'=>match fin with | .done (.ret u)=>u=v/\s'=s1 |_=>False) (λ_ _=>False) s1:=by
  intro s1 hs1
  subst hs1
  unfold «object.__getattribute__» bindTo
  repeat (any_goals lk)
  exact⟨rfl,rfl⟩
 unfold argsOk at ha
 have sg2:∀sig,Manifest.signature? "BaseException.__getattribute__" =some sig->Bind.checkArgs "BaseException.__getattribute__" sig {pos:=[Value.ref x,Value.str name t]}=pure ():=λsig e=>by
  rw[e] at ha
  exact ha
 have YR:∀{P:Unit->Shared->Prop}{E':Value->Shared->Prop}{s1:Shared},P () s1->wpAny (model prog w) A.in1 (match Manifest.signature? "BaseException.__getattribute__" with |some sig=>Bind.checkArgs "BaseException.__getattribute__" sig {pos:=[Value.ref x]++[Value.str name t]} |_=>pure ()) P E' s1:=fun {P E' s1} p=>by
  split
  ·rename_i sig e
   rw[show[Value.ref x]++[Value.str name t]=[Value.ref x,Value.str name t] from rfl,sg2 sig e]
   exact wpAny_pure p
  ·exact wpAny_pure p
 refine YR ?_
 refine wpAny_mono (fin _ rfl) (λfi s' z=>?_) λ_ _ z=>z.elim
 rcases fi with(_ |_ |_ |u) |_
 all_goals first |exact z.elim |skip
 obtain⟨rfl,rfl⟩:=z
 show wpAny _ _ (handedOut _) _ _ _
 rw[handedOut_of hh]
 exact wpAny_pure h
end
section
variable {prog:Program}{w:World}{A:Around}{E:Value->Shared->Prop}{h:Heap}{g:Array GenState}{d:Drawn}{t:Nat}{os:OsState}
variable {nm q:Str}{C N:Addr}{bs bm bmB:List Value}{hdct:Bool}{sn:List Str}{sub:List Value}{ab:Bool}{col:Option Bool}{dd:Option Addr}{k0 k1 k2 k3 k5:Option Value}
end
noncomputable def rem (H:Hp)(e:Addr):Hp:=λb=>if b=e then none else H b
section
variable {P:Program}{w:World}{fs ex:List Addr}{H:Hp}{h h':Heap}{a e dx:Addr}{o o1 o2:HO}{φ:Heap->Prop}
theorem Un.put (k:∀b u,h.get? b=some u->h'.get? b=some u)(hn:h.get? a=none)(hH:H a=none):Un fs ex H (upd H a o) h h' where
 keep:=λb o e _ _ _=>k b o e
 slot:=λb o e _ _ _=>⟨o.slots,k b o e⟩
 free:=λb o e n _=>by rw[Xr (λz=>by rw[z,hn] at e;cases e)];exact n
 there:=λb o e _=>⟨o,k b o e⟩
 tups:=λb xs q=>by rw[Xr (Xu q hH)];exact q
 frzs:=λb o xs q=>by rw[Xr (Xu q hH)];exact q
 tbls:=λb ps q=>⟨#[],by rw[Xr (Xu q hH)];simpa using q⟩
theorem HOk.put (x:HOk P w H h)(k:∀b u,h.get? b=some u->h'.get? b=some u)(hn:H a=none)(new:Yh P w (upd H a o) h' a o):HOk P w (upd H a o) h':=λb u e=>by
 by_cases hb:b=a
 ·subst hb;rw[XU] at e;cases e;exact new
 ·rw[Xr hb] at e
  exact(x b u e).stay (λc v _ q=>k c v q) (λc q=>by rw[Xr (Xu q hn)];exact q) λc xs q=>by rw[Xr (Xu q hn)];exact q
theorem Un.store (he:H e=some (.ext φ))(k:∀b u,b≠e->h.get? b=some u->h'.get? b=some u)(heo:∃u,h'.get? e=some u)(hn:h.get? dx=none)(hH:H dx=none):Un fs ex H (upd (upd H dx o1) e o2) h h':=by
 have ne:∀b u,H b=some u->(∀φ,u≠ .ext φ)->b≠e:=λb u q n z=>by rw[z,he] at q;cases q;exact n _ rfl
 have n0:∀b,H b=none->b≠e:=λb q z=>by rw[z,he] at q;cases q
 have two:∀b u,H b=some u->(∀φ,u≠ .ext φ)->upd (upd H dx o1) e o2 b=some u:=λb u q n=>by rw[Xr (ne b u q n),Xr (Xu q hH)];exact q
 exact{
  keep:=λb o e n _ _=>k b o (n0 b n) e
  slot:=λb o e n _ _=>⟨o.slots,k b o (n0 b n) e⟩
  free:=λb o e n _=>by rw[Xr (n0 b n),Xr (λz=>by rw[z,hn] at e;cases e)];exact n
  there:=λb o q _=>by
   by_cases z:b=e
   ·rw[z];exact heo
   ·exact⟨o,k b o z q⟩
  tups:=λb xs q=>two b _ q λ_ z=>nomatch z
  frzs:=λb o xs q=>two b _ q λ_ z=>nomatch z
  tbls:=λb ps q=>⟨#[],by rw[two b _ q λ_ z=>nomatch z];simp⟩}
theorem HOk.store (x:HOk P w H h)(he:H e=some (.ext φ))(k:∀b u,b≠e->h.get? b=some u->h'.get? b=some u)(hH:H dx=none)(n1:Yh P w (upd (upd H dx o1) e o2) h' dx o1)(n2:Yh P w (upd (upd H dx o1) e o2) h' e o2):HOk P w (upd (upd H dx o1) e o2) h':=λb u q=>by
 have ne:∀b u,H b=some u->(∀φ,u≠ .ext φ)->b≠e:=λb u q n z=>by rw[z,he] at q;cases q;exact n _ rfl
 by_cases hb:b=e
 ·subst hb;rw[XU] at q;cases q;exact n2
 ·rw[Xr hb] at q
  by_cases hd:b=dx
  ·subst hd;rw[XU] at q;cases q;exact n1
  ·rw[Xr hd] at q
   refine(x b u q).stay (λc v hc z=>k c v ?_ z) (λc z=>by rw[Xr (ne c _ z λ_ y=>nomatch y),Xr (Xu z hH)];exact z) λc xs z=>by rw[Xr (ne c _ z λ_ y=>nomatch y),Xr (Xu z hH)];exact z
   rcases hc with z |z
   ·rw[z];exact hb
   ·exact ne c _ z λ_ y=>nomatch y
theorem Un.drop (he:H e=some (.ext φ)):Un fs ex H (rem H e) h h:=by
 have two:∀b u,H b=some u->(∀φ,u≠ .ext φ)->rem H e b=some u:=λb u q n=>by
  unfold rem
  rw[if_neg (λz=>by rw[z,he] at q;cases q;exact n _ rfl)];exact q
 exact{
  keep:=λb o e _ _ _=>e
  slot:=λb o e _ _ _=>⟨o.slots,e⟩
  free:=λb o _ n _=>by unfold rem;split<;> first |rfl |exact n
  there:=λb o e _=>⟨o,e⟩
  tups:=λb xs q=>two b _ q λ_ z=>nomatch z
  frzs:=λb o xs q=>two b _ q λ_ z=>nomatch z
  tbls:=λb ps q=>⟨#[],by rw[two b _ q λ_ z=>nomatch z];simp⟩}
theorem HOk.drop (x:HOk P w H h)(he:H e=some (.ext φ)):HOk P w (rem H e) h:=λb u q=>by
 unfold rem at q
 split at q
 ·cases q
 ·have two:∀b u,H b=some u->(∀φ,u≠ .ext φ)->rem H e b=some u:=λb u q n=>by
   unfold rem
   rw[if_neg (λz=>by rw[z,he] at q;cases q;exact n _ rfl)];exact q
  exact(x b u q).stay (λc v _ z=>z) (λc z=>two c _ z λ_ y=>nomatch y) λc xs z=>two c _ z λ_ y=>nomatch y
end
structure ExI (K:Frag)(C P fI:Addr)(f:Str):Prop where
 cls:∃nm q N bs sn sub ab col dd k0 k1 k2 k3 k5,K.lookup C=some (excClassObj nm q C N bs (.ref P::vEr) true sn sub ab col dd k0 k1 k2 k3 k5 "ValueError.__new__")
 par:excIn K P vEr "ValueError.__new__" =true
 sa:findIn K (.ref C) "__setattr__" =some (some (.builtin "object.__setattr__"))
 no:findIn K (.ref C) f=some none
 ini:findIn K (.ref C) "__init__" =some (some (.ref fI))
 fn:isFn K (.ref fI)=true
theorem ExI.cd {K:Frag}{C P fI:Addr}{f:Str}(Y:ExI K C P fI f):∃cd,clsIn K C=some cd/\cd.mro= .ref C:: .ref P::vEr/\cd.hasDict=true:=by
 obtain⟨nm,q,N,bs,sn,sub,ab,col,dd,k0,k1,k2,k3,k5,h⟩:=Y.cls
 unfold clsIn
 rw[h]
 exact⟨_,rfl,rfl,rfl⟩
theorem ExI.tail {K:Frag}{C P fI:Addr}{f:Str}{h:Heap}(Y:ExI K C P fI f)(X:K.In h):OwnTail h vEr (.ref P::vEr):=by
 obtain⟨bm,N,nm,q,bs,hdct,sn,sub,ab,col,dd,k0,k1,k2,k3,k5,mN,hC,hN,hni,T⟩:=KW X Y.par
 exact .own hC hN hni .base
section
variable {M:Model}{A:Around}{E:Value->Shared->Prop}{env:Env}
variable {nm q:Str}{C N:Addr}{bs bm:List Value}{hdct:Bool}{sn:List Str}{sub:List Value}{ab:Bool}{col:Option Bool}{dd:Option Addr}{k0 k1 k2 k3 k5:Option Value}{newId:String}
end
section
variable {X:Cx}{E:XK}{C P fI:Addr}{f x a b:Str}{e:Expr}{t:TA}{np cpos pos:Pos}{fd:FuncData}{k:Nat}
end
section
variable {X:Cx}{body suite:List Stmt}{b₀:Stmt}{cn n:Str}{Ch:Addr}{i:Nat}{tb:XK->TS}{ts:Addr->Addr->Option Addr->TS}{np hpos pos:Pos}
end
end L2
namespace L2
open PySem PySem.Spec PyProof.Rows PySem.W
section
variable {X:Cx}{pins:List (Addr×Obj)}{σ:St}{H:Hp}{s:Shared}{h':Heap}
end
section
variable {X:Cx}{suite:List Stmt}{b₀:Stmt}{cn n fx:Str}{Ch:Addr}{i k j:Nat}{ts:Addr->Addr->Option Addr->TS}{np hpos pos p cpos epos:Pos}{ps:List Str}{sp:Sp}{e:Expr}{es:List Expr}{t:TA}
end
end L2
namespace L2
open PySem PySem.Spec PyProof.Rows
section
variable {K:PySem.W.Frag}{Er:Exc->Hp->Prop}{S:SC}{OO OO' OO2:List (List Xs)}{σ:St}{α β γ ρ ι:Type}{α1 α2 α3:Type}{mg:Str->Option Value}{E:XK}{u:TS}
variable {Fd:Ends->β->Hp->Prop}[fd:FdOk Fd]
end
section
variable {X:Cx}
end
section
variable {K:PySem.W.Frag}{Er:Exc->Hp->Prop}{S:SC}{OO OO':List (List Xs)}{σ:St}{α β:Type}{u:TS}{Fd:Ends->β->Hp->Prop}[fd:FdOk Fd]
end
section
variable {K:PySem.W.Frag}{Er:Exc->Hp->Prop}{S:SC}{OO:List (List Xs)}{σ:St}{α β:Type}{u:TS}{Fd:Ends->β->Hp->Prop}[fd:FdOk Fd]
end
section
variable {K:PySem.W.Frag}{Er:Exc->Hp->Prop}{S:SC}{OO OO':List (List Xs)}{σ:St}{α β γ ρ ι:Type}{α1:Type}{mg:Str->Option Value}{E:XK}{u:TS}
end
section
variable {K:PySem.W.Frag}{Er:Exc->Hp->Prop}{S:SC}{OO:List (List Xs)}{σ:St}
end
section
variable {K:PySem.W.Frag}{Er:Exc->Hp->Prop}{S:SC}{OO OO':List (List Xs)}{σ:St}{α β γ:Type}{u:TS}{Fd:Ends->β->Hp->Prop}[fd:FdOk Fd]
end
section
variable {X:Cx}
noncomputable def Ka:V->List V->Hp->VK->Prop:=λx vs H Q=>∃ a b,x= .str a/\vs=[.str b]/\Q (.bl (Txt.startswith a b)) H
theorem Km:MtR X "str.startswith" Ka:=by
 intro pins s σ H x vs v us Q I rx rv h
 obtain⟨a,b,rfl,rfl,q⟩:=h
 obtain⟨t,rfl⟩:=rx
 obtain⟨u,rfl,ru⟩:=XJ.one rv
 obtain⟨t2,rfl⟩:=ru
 exact PySem.SC.startswith ⟨.bl _,H,I,rfl,q⟩
noncomputable def G7:V->List V->Hp->VK->Prop:=λx vs H Q=>∃ a,x= .str a/\vs=[]/\Q (.bl (Txt.isdigit a)) H
theorem Gf:MtR X "str.isdigit" G7:=by
 intro pins s σ H x vs v us Q I rx rv h
 obtain⟨a,rfl,rfl,q⟩:=h
 obtain⟨t,rfl⟩:=rx
 cases rv
 exact PySem.SC.isdigit ⟨.bl _,H,I,rfl,q⟩
theorem VO:∀{ys:List Str}{its:List Value},XJ (ys.map V.str) its->StrsAre its ys
 | [],_,h=>by cases h;exact .nil
 |y::ys,_,h=>by
  cases h with
  |cons r t=>
   obtain⟨u,rfl⟩:=r
   exact .cons _ _ (VO t)
noncomputable def Ci (K:PySem.W.Frag):V->List V->Hp->VK->Prop:=λx vs H Q=>∃ a p ys,x= .str a/\vs=[.ref p]/\SqL K H p (ys.map V.str)/\(ys.map (·.length)).sum+ys.length*a.length<=16777216/\Q (.str (Txt.join a ys)) H
theorem Kg (K:PySem.W.Frag)(hK:X.K=K):MtR X "str.join" (Ci K):=by
 subst hK
 intro pins s σ H x vs v us Q I rx rv h
 obtain⟨a,p,ys,rfl,rfl,hq,hb,q⟩:=h
 obtain⟨t,rfl⟩:=rx
 obtain⟨u,rfl,ru⟩:=XJ.one rv
 cases ru
 obtain⟨its,rr,pl,hz⟩:=I.list hq
 exact PyProof.Rows.join_list pl.isList (by simpa using VO rr) hb λt' k=>⟨.str _,H,I.tok _,⟨_,rfl⟩,q⟩
noncomputable def G9:V->List V->Hp->VK->Prop:=λx vs H Q=>∃ a b,x= .str a/\vs=[.str b]/\(b.length==0)=false/\a.length<=sizeLine/\(Txt.split a b).length<=sizeLine/\∀l,H l=none->Q (.ref l) (upd H l (.lst ((Txt.split a b).map V.str)))
theorem JY:∀(l:List (Str×Tok)),XJ ((l.map (·.1)).map V.str) (strValues l)
 | []=>.nil
 | (x,t)::l=>.cons ⟨t,rfl⟩ (JY l)
theorem Gr:MtR X "str.split" G9:=by
 intro pins s σ H x vs v us Q I rx rv h
 obtain⟨a,b,rfl,rfl,hb,ha,hz,q⟩:=h
 obtain⟨t,rfl⟩:=rx
 obtain⟨u,rfl,ru⟩:=XJ.one rv
 obtain⟨t2,rfl⟩:=ru
 have fin:∀(l:List (Str×Tok)) (k:Nat),l.map (·.1)=Txt.split a b->EP X pins σ Q (.ref s.heap.objs.size) {s with heap:=s.heap.push {cls:=.type "list",data:=.seq (strValues l).toArray},toks:=k}:=λl k hl=>
  ⟨.ref s.heap.objs.size,_,I.laid (t':=k) (o:=.lst ((Txt.split a b).map V.str)) (λb ob q=>Heap.get?_push_of_some _ q) (Nat.le_refl _) ⟨by rw[List.length_map];exact hz,_,0,by rw[←hl];exact JY l,Heap.get?_push_size _ rfl⟩,rfl,q _ (I.hok.fresh (Nat.le_refl _))⟩
 cases h1:(decide (a.length<b.length) || decide (Builtin.Str.strKind a<Builtin.Str.strKind b))
 ·cases hf:(Builtin.Str.occurrences a b 0 a.length (a.length+1)).isEmpty
  ·have e:Txt.split a b=Builtin.Str.partsBetween a (Builtin.Str.occurrences a b 0 a.length (a.length+1)) b.length:=(if_neg (ne_true_of_eq_false h1)).trans (if_neg (ne_true_of_eq_false hf))
   rw[e] at hz
   refine call_meets F.slot_str_split (typeIs_str _ _ _) F.entry_str_split (F.args_str_split_2 _ _) (meets_str_split_sep a b t t2 h1 hb hf ha hz) ?_
   show EP X pins σ Q _ {s with toks:=_,heap:=s.heap.push {cls:=.type "list",data:=.seq (strsFrom s.toks (Builtin.Str.partsBetween a (Builtin.Str.occurrences a b 0 a.length (a.length+1)) b.length)).toArray}}
   rw[strsFrom_eq]
   exact fin (numbered s.toks _) _ ((numbered_texts _ _).trans e.symm)
  ·exact call_meets F.slot_str_split (typeIs_str _ _ _) F.entry_str_split (F.args_str_split_2 _ _) (meets_str_split_not_found a b t t2 h1 hb hf) (fin [(a,t)] s.toks ((if_neg (ne_true_of_eq_false h1)).trans (if_pos hf)).symm)
 ·exact call_meets F.slot_str_split (typeIs_str _ _ _) F.entry_str_split (F.args_str_split_2 _ _) (meets_str_split_cannot_occur a b t t2 h1) (fin [(a,t)] s.toks (if_pos h1).symm)
noncomputable def B1:V->Option Int->Option Int->Hp->VK->Prop:=λx lo hi H Q=>∃ a,x= .str a/\a.length<=sizeLine/\Q (.str (Txt.slice a lo hi)) H
theorem CN:SlR X B1:=by
 intro pins s σ H x v vl vu lo hi sl Q I rx hs pl pu h
 obtain⟨a,rfl,hz,q⟩:=h
 obtain⟨t,rfl⟩:=rx
 obtain⟨o,ho,hc,hd⟩:=hs
 refine⟨"str",_,F.slot_str_getitem.lookup,typeIs_str _ _ _,?_⟩
 have fin:∀(t':Tok) (k:Nat),EP X pins σ Q (.str (Txt.slice a lo hi) t') {s with toks:=k}:=λt' k=>⟨.str _,H,I.tok _,⟨_,rfl⟩,q⟩
 cases pl with
 |none=>
  cases pu with
  |none=>exact wpAny_getItem_str_slice (l:=none) (u:=none) (st:=none) ⟨o,ho,hc,hd⟩ rfl (post_val_or_str ⟨Nat.le_trans (Txt.slice_le a _ _) hz,λt' k=>fin t' k⟩)
  |int j tj=>exact wpAny_getItem_str_slice (l:=none) (u:=some (j,tj)) (st:=none) ⟨o,ho,hc,hd⟩ rfl (post_val_or_str ⟨Nat.le_trans (Txt.slice_le a _ _) hz,λt' k=>fin t' k⟩)
 |int i ti=>
  cases pu with
  |none=>exact wpAny_getItem_str_slice (l:=some (i,ti)) (u:=none) (st:=none) ⟨o,ho,hc,hd⟩ rfl (post_val_or_str ⟨Nat.le_trans (Txt.slice_le a _ _) hz,λt' k=>fin t' k⟩)
  |int j tj=>exact wpAny_getItem_str_slice (l:=some (i,ti)) (u:=some (j,tj)) (st:=none) ⟨o,ho,hc,hd⟩ rfl (post_val_or_str ⟨Nat.le_trans (Txt.slice_le a _ _) hz,λt' k=>fin t' k⟩)
noncomputable def D0:List V->Hp->VK->Prop:=λxs H Q=>∃ z n,xs=[.str z]/\PySem.intText? z=some n/\z.length<=640/\Q (.int n) H
theorem Kf:Y9 X (.type "int") D0:=by
 intro pins s σ H xs us Q I r h
 obtain⟨z,n,rfl,hn,hl,q⟩:=h
 obtain⟨u,rfl,ru⟩:=Uh r
 obtain⟨t,rfl⟩:=ru
 exact W.KIN.call_text hn hl ⟨.int n,H,I.tok _,⟨_,rfl⟩,q⟩
end
section
variable {X:Cx}{e:Expr}{es:List Expr}{te:TE}{t:TJ}{n:Nat}{pos p:Pos}
noncomputable def tJr (te:TE)(t:TJ):TJ:=λσ H Q=>te σ H λv H1=>∃ x:Str,v= .str x/\(reprText x).length<=2000/\t σ H1 Q
theorem Vz (he:PE X e te)(hr:PJ X es (n+2000) t)(hz:n+2000<=sizeLine:=by exact Nat.le_of_ble_eq_true rfl):PJ X (.FormattedValue e 114 none p::es) n (tJr te t):=λpins s σ H Q out I hl q=>by
 refine joinParts_cons (wpAny_FormattedValue_repr (wpAny_mono (he pins s σ H _ I q) (λu s1 r9=>?_) λ_ _ z=>z))
 obtain⟨v,H1,I1,r,x,hv,hx,q1⟩:=r9
 subst hv
 obtain⟨tk,hu⟩:∃tk,u=Value.str x tk:=r
 subst hu
 have h2:(reprText x).length<=sizeLine:=Nat.le_trans hx (by decide)
 refine wpAny_pyReprObj_str ?_ h2
 have hle:(out++reprText x).length<=n+2000:=by rw[strLen_append];omega
 exact formatField_str (λt' tk=>⟨Nat.le_trans hle hz,hr pins _ σ H1 Q _ ((I1.tok _).tok _) hle q1⟩) h2
end
section
variable {α β:Type}{K:PySem.W.Frag}{Er:Exc->Hp->Prop}{S:SC}{OO:List (List Xs)}{σ:St}
noncomputable def sI (i:Int):Str:=toString i
theorem Uo {ta tb:TE}{ma mb:Rs Str}(ha:EvB K Er S OO σ ta Xm ma)(hb:EvB K Er S OO σ tb Xm mb):EvB K Er S OO σ (tBM K "str" Ka ta (XQ tb Zs)) Xx (ma.bind λa=>mb.bind λb=>.ok (Txt.startswith a b)):=λH Q w s P=>
 ha.run w s FB.tr P λa x H1 s1 w1 q1 e P1=>⟨by rw[show x= .str a from e];exact rfl,hb.run w1 q1 FB.tr P1 λb v H2 s2 w2 q2 r2 P2=>⟨a,b,e,by rw[show v= .str b from r2],P2 _ H2 (Xn.refl _) rfl⟩⟩
theorem KP {ta:TE}{ma:Rs Str}(ha:EvB K Er S OO σ ta Xm ma):EvB K Er S OO σ (B7 K "str" G7 ta) Xx (ma.bind λa=>.ok (Txt.isdigit a)):=λH Q w s P=>
 ha.run w s FB.tr P λa x H1 s1 w1 q1 e P1=>⟨by rw[show x= .str a from e];exact rfl,a,e,rfl,P1 _ H1 (Xn.refl _) rfl⟩
theorem Ks {H:Hp}:∀{xs:List V}{as:List Str},Paired (Xm K H) xs as->xs=as.map V.str
 |_,_, .nil=>rfl
 |_,_, .cons r t=>by rw[Ks t,show _=V.str _ from r];rfl
theorem U6 {H:Hp}:∀(as:List Str),Paired (Xm K H) (as.map V.str) as
 | []=>.nil
 |a::as=>.cons rfl (U6 as)
theorem V5 {ta tb:TE}{ma:Rs Str}{mb:Rs (List Str)}(ha:EvB K Er S OO σ ta Xm ma)(hb:EvB K Er S OO σ tb (rV Xm) mb):EvB K Er S OO σ (tBM K "str" (Ci K) ta (XQ tb Zs)) Xm (ma.bind λa=>mb.bind λys=>chk ((ys.map (·.length)).sum+ys.length*a.length<=16777216) (.ok (Txt.join a ys))):=λH Q w s P=>
 ha.run w s FB.tr P λa x H1 s1 w1 q1 e P1=>⟨by rw[show x= .str a from e];exact rfl,hb.run w1 q1 FB.tr P1 λys v H2 s2 w2 q2 ⟨p,xs,ev,hq,pr⟩ P2=>by
  obtain⟨hn,P3⟩:=PZ.chk P2
  exact⟨a,p,ys,e,by rw[ev],SqL.of (by rw[hq,Ks pr]),hn,P3 _ H2 (Xn.refl _) rfl⟩⟩
theorem Gs {ta tb:TE}{ma mb:Rs Str}(ha:EvB K Er S OO σ ta Xm ma)(hb:EvB K Er S OO σ tb Xm mb):Ev K Er S OO OO σ (tBM K "str" G9 ta (XQ tb Zs)) (oL (oF Xm)) (ma.bind λa=>mb.bind λb=>chk ((b.length==0)=false/\a.length<=sizeLine/\(Txt.split a b).length<=sizeLine) (.ok (Txt.split a b))):=λH Q w s P=>
 ha.run w s FO.tr P λa x H1 s1 w1 q1 e P1=>⟨by rw[show x= .str a from e];exact rfl,hb.run w1 q1 FO.tr P1 λb v H2 s2 w2 q2 r2 P2=>by
  obtain⟨⟨h0,h1,h3⟩,P3⟩:=PZ.chk P2
  exact⟨a,b,e,by rw[show v= .str b from r2],h0,h1,h3,DO w2 (U6 _) P3⟩⟩
theorem Up {te:TE}{tl th:TO}{m:Rs Str}{ml mh:Rs (Option Int)}(he:EvB K Er S OO σ te Xm m)(hl:EvP Er S OO σ tl ml)(hh:EvP Er S OO σ th mh):
  EvB K Er S OO σ (tSl B1 te tl th) Xm (m.bind λa=>ml.bind λlo=>mh.bind λhi=>chk (a.length<=sizeLine) (.ok (Txt.slice a lo hi))):=λH Q w s P=>
 he.run w s FB.tr P λa x H1 s1 w1 q1 e P1=>hl.run w1 q1 FB.tr P1 λlo H2 s2 w2 q2 P2=>hh.run w2 q2 FB.tr P2 λhi H3 s3 w3 q3 P3'=>by
  obtain⟨hn,P4⟩:=PZ.chk P3'
  exact⟨a,e,hn,P4 _ H3 (Xn.refl _) rfl⟩
noncomputable def Fu (a:Str):Rs Int:=match PySem.intText? a with
 |some n=>chk (a.length<=640) (.ok n)
 |none=>.bad
theorem Do {a:Str}{x:Exc}:Fu a≠ .err x:=by unfold Fu;split;exact Zd;exact λz=>nomatch z
theorem Fz {a:Str}{n:Int}(h:Fu a= .ok n):PySem.intText? a=some n/\a.length<=640:=by
 unfold Fu at h;split at h
 ·obtain⟨h1,h2⟩:=YD h;cases h2;exact⟨by assumption,h1⟩
 ·cases h
theorem Gz {ta:TE}{ma:Rs Str}(ha:EvB K Er S OO σ ta Xm ma):EvB K Er S OO σ (tCB D0 (XQ ta Zs)) Xg (ma.bind Fu):=λH Q w s P=>
 ha.run w s FB.tr P λa x H1 s1 w1 q1 e P1=>by
  obtain⟨c,hc,P3⟩:=P1.okOf λx=>Do
  obtain⟨h1,h2⟩:=Fz hc
  exact⟨a,c,by rw[show x= .str a from e],h1,h2,P3 _ H1 (Xn.refl _) rfl⟩
theorem Q8 {ta:TE}{ma:Rs Int}(ha:EvB K Er S OO σ ta Xg ma):EvB K Er S OO σ (tCB (λxs H Q=>∃ i:Int,xs=[.int i]/\i.natAbs.log2<1920/\Q (.str (toString i)) H) (XQ ta Zs)) Xm (ma.bind λi=>chk (i.natAbs.log2<1920) (.ok (sI i))):=λH Q w s P=>
 ha.run w s FB.tr P λi x H1 s1 w1 q1 e P1=>by
  obtain⟨hn,P3⟩:=PZ.chk P1
  exact⟨i,by rw[show x= .int i from e],hn,P3 _ H1 (Xn.refl _) rfl⟩
theorem Ge {ta:TE}{ma:Rs Str}(ha:EvB K Er S OO σ ta Xm ma):EvB K Er S OO σ (tCB (λxs H Q=>∃ z:Str,xs=[.str z]/\z.length<=sizeLine/\Q (.int z.length) H) (XQ ta Zs)) Xg (ma.bind λa=>chk (a.length<=sizeLine) (.ok (a.length:Int))):=λH Q w s P=>
 ha.run w s FB.tr P λa x H1 s1 w1 q1 e P1=>by
  obtain⟨hn,P3⟩:=PZ.chk P1
  exact⟨a,by rw[show x= .str a from e],hn,P3 _ H1 (Xn.refl _) rfl⟩
theorem QZ {te:TE}{t:TJ}{ma:Rs Str}{m:Rs Unit}(ha:EvB K Er S OO σ te Xm ma)(h:EvJ Er S OO σ t m):EvJ Er S OO σ (tJr te t) (ma.bind λa=>chk ((reprText a).length<=2000) m):=λH Q w s P=>
 ha.run w s FJ.tr P λa v H1 s1 w1 q1 e P1=>by
  obtain⟨hn,P3⟩:=PZ.chk P1
  exact⟨a,e,hn,h H1 Q w1 q1 P3⟩
noncomputable def CL {γ ε:Type}:(α×γ) ⊕ (α×ε)->α
 | .inl a=>a.1
 | .inr b=>b.1
theorem F4 {γ ε:Type}{ta:TE}{r:Enc α}{r1:Enc γ}{q1:Enc ε}{m:Rs ((α×γ) ⊕ (α×ε))}(ha:EvB K Er S OO σ ta (rEi (rP2 r r1) (rP2 r q1)) m):EvB K Er S OO σ (tOp (CJ K) ta (tC (.int 0))) r (m.bind λp=>.ok (CL p)):=λH Q w s P=>
 ha.run w s FB.tr P λa x H1 s1 w1 q1 h P1=>by
  cases a with
  |inl a=>
   obtain⟨p,x,y,e,q,h1,h2⟩:=h
   exact⟨p,_,0,x,e,rfl,SqT.of q,rfl,P1 _ H1 (Xn.refl _) h1⟩
  |inr a=>
   obtain⟨p,x,y,e,q,h1,h2⟩:=h
   exact⟨p,_,0,x,e,rfl,SqT.of q,rfl,P1 _ H1 (Xn.refl _) h1⟩
section
variable {ρ:Type}{mg:Str->Option Value}{u:TS}{te:XK->TE}{m:Rs α}{mc:Rs Bool}{c:XK->TT}{t2:XK->TS}{ts:Addr->Addr->TS}{N i:Nat}{Ch:Addr}{o:OE ρ}{g:Exc->Rs ρ}{ns:List Str}{d:Str}{OO':List (List Xs)}
end
section
variable {u:TS}{Fd:Ends->β->Hp->Prop}[fd:FdOk Fd]
end
end
noncomputable def ZX (h:Heap)(T:Addr):Heap:=h.update T (Obj.mapFields (·.setIfInBounds 3 Value.none))
structure FlA (h0 h:Heap)(H:Hp)(a T:Addr)(cls fl:Value):Prop where
 na:h0.get? a=none
 nT:h0.get? T=none
 fa:H a=none
 fT:H T=none
 ne:T≠a
 obj:∃oe vs oT ts a0,h.get? a=some oe/\oe.cls=cls/\vs[0]?=some a0/\oe.data= .fields vs/\vs[1]?=some (.ref T)/\h.get? T=some oT/\oT.data= .fields ts/\ts[3]?=some fl
section
variable {h0 h:Heap}{H:Hp}{a T:Addr}{cls fl:Value}
theorem X8 (b:Addr)(hb:b≠T):(ZX h T).get? b=h.get? b:=Heap.get?_update_other _ _ (Ne.symm hb)
theorem FlA.calm (x:FlA h0 h H a T cls fl):Fl h0 (ZX h T) H a T cls:=by
 obtain⟨oe,vs,oT,ts,a0,ha,hc,h0',hd,h1,hT,hdT,h3⟩:=x.obj
 have hsz:3<ts.size:=(Array.getElem?_eq_some_iff.mp h3).1
 exact⟨x.na,x.nT,x.fa,x.fT,x.ne,oe,vs,_,_,a0,(X8 a (Ne.symm x.ne)).trans ha,hc,h0',hd,h1,Heap.get?_update_self _ hT (Obj.isFreed_of_fields (Obj.data_mapFields hdT _)),Obj.data_mapFields hdT _,by simp[hsz]⟩
theorem Kx {oT:Obj}{ts:Array Value}(hT:h.get? T=some oT)(hdT:oT.data= .fields ts):h.UpToSlots (ZX h T):=λb o e hn=>⟨o.slots,(X8 b λz=>by
 rw[z,hT] at e;cases e;exact hn _ hdT).trans e⟩
theorem FlA.up (x:FlA h0 h H a T cls fl):h.UpToSlots (ZX h T):=by
 obtain⟨_,_,_,_,_,_,_,_,_,_,hT,hdT,_⟩:=x.obj
 exact Kx hT hdT
end
theorem Vq {M:Model}{A:Around}{E:Value->Shared->Prop}{s:Shared}{base:Heap}{env:Env}{outer:List Env}{L e T:Addr}{cls a0 fl:Value}{oe oT:Obj}{vs ts:Array Value}{Q:Unit->Shared->Prop}
  (hfr:A.frames=some (env::outer))(hf:env.frame=some L)(ha:s.heap.get? e=some oe)(hd:oe.data= .fields vs)(h1:vs[1]?=some (.ref T))(hT:s.heap.get? T=some oT)(hdT:oT.data= .fields ts)(h3:ts[3]?=some fl)
  (hfl:Heap.FlyingW base (env::outer) e cls a0 (ZX s.heap T))
  (hQ:∀h',Heap.FlyingW base outer e cls a0 h'->(ZX s.heap T).UpToSlots h'->Q () {s with heap:=h'}):wpAny M A (leaving env (.ref e)) Q E s:=by
 have hsz:3<ts.size:=(Array.getElem?_eq_some_iff.mp h3).1
 unfold leaving
 refine wpAny_bind ?_
 unfold noteFrame
 simp only[hf]
 refine wpAny_bind (wpAny_field ha hd h1 ?_)
 rw[if_pos (show(Value.ref T !=Value.none)=true from by simp)]
 refine wpAny_bind (wpAny_field hT hdT h3 ?_)
 by_cases hb:(fl==rawInt L)=true
 ·rw[if_pos hb]
  refine wpAny_pure ?_
  unfold setFlight
  refine wpAny_bind (wpAny_field ha hd h1 ?_)
  rw[if_pos (show(Value.ref T !=Value.none)=true from by simp)]
  refine wpAny_setField hT hdT hsz ?_
  obtain⟨k1,k2,⟨_,_,k3⟩,k4⟩:=hfl
  exact hQ _ ⟨k1,k2,k3,k4⟩ (Heap.UpToSlots.refl _)
 ·rw[if_neg hb]
  refine wpAny_bind (wpAny_setField hT hdT hsz ?_)
  obtain⟨f1,f2,f3,f4⟩:=hfl
  obtain⟨oe',vs',T',oT',ts',he',⟨hcls',h0'⟩,hd',h1',_⟩:=f4
  subst hcls'
  refine wpAny_entryW (s:={s with heap:=ZX s.heap T}) hfr f3 hf he' f1 f2 hd' (Array.getElem?_eq_some_iff.mp h1').1 h0' λh' ⟨x1,x2,x3,x4⟩=>?_
  refine wpAny_landsW (base:=base) (l:=env::outer) (L:=L) ⟨x1,f2,x2,x3⟩ λh'' k up=>?_
  obtain⟨k1,k2,⟨_,_,k3⟩,k4⟩:=k
  exact hQ h'' ⟨k1,k2,k3,k4⟩ (Heap.UpToSlots.trans x4 up)
noncomputable def Vy (X:Cx)(E:XK):Prop:=∀ (pins:List (Addr×Obj)) (σ:St) (H:Hp) (s:Shared) (a T C:Addr) (fl:Value),Inv X pins σ H s->FlA X.s₀.heap s.heap H a T (.ref C) fl->
 (∀b∈[a,T],X.s₀.heap.get? b=none/\b≠X.env.locals/\(∀x c,X.env.cells.lookup x=some c->c≠b)/\∀p∈X.pn++pins,p.1≠b)->E (.ref C) none H->X.xe (.ref a) s
section
variable {P:Program}{w:World}{K:PySem.W.Frag}{mg:Str->Option Value}{base:Heap}{N:List Str}{qual:Str}{scope:Scope}{f:Addr}{cd:Value}{A:Around}{outer:List Env}{s0:Shared}{H0:Hp}{E:XK}
theorem Bz:Vy (V7 (CXE P w) P w K mg base N qual scope f cd A outer s0 H0 E) E:=by
 intro pins σ H s a T C fl I x ch q
 have I2:=I.past (h':=ZX s.heap T) (Un.traced I.stack (λb o _ _ n e=>(X8 b n).trans e) x.up) (I.hok.traced I.stkFree x.fa x.fT λb o _ _ n e=>(X8 b n).trans e) ch
 obtain⟨oe,vs,oT,ts,a0,ha,hc,h0',hd,h1,hT,hdT,h3⟩:=x.obj
 have x0:=x.calm
 obtain⟨a0',fl'⟩:=x0.fly I2.stack
 refine Vq I.ok.frames rfl ha hd h1 hT hdT h3 fl' λh' k up=>?_
 obtain⟨T',y1,y2,y3⟩:=x0.after I2.stack I2.stkFree I2.hok (λb o e=>I2.base.there b o e (λz=>nomatch z)) k.1 k.2.2.2 up
 refine⟨a,T',C,H,rfl,y1,I2.os,I2.bare,I2.base.past y3 (λb hb=>?_) λb hb=>?_,y2,q⟩
 ·rcases List.mem_cons.mp hb with z |z
  ·rw[z];exact x0.na
  ·rw[List.mem_singleton.mp z];exact x0.nT
 ·rcases List.mem_cons.mp (I2.stkSub b hb) with z |z
  ·exact .inr (z▸Heap.get?_none_of_le I.ok.above)
  ·exact .inl z
end
theorem Un.but {fs ch:List Addr}{H:Hp}{h h':Heap}(k:∀b,b∉ch->h'.get? b=h.get? b):Un fs ch H H h h' where
 keep:=λb o e _ _ hx=>(k b hx).trans e
 slot:=λb o e _ _ hx=>⟨o.slots,(k b hx).trans e⟩
 free:=λ_ _ _ n _=>n
 there:=λb o e hx=>⟨o,(k b hx).trans e⟩
 tups:=λ_ _ q=>q
 frzs:=λ_ _ _ q=>q
 tbls:=λ_ ps q=>⟨#[],by simpa using q⟩
section
variable {X:Cx}{pins:List (Addr×Obj)}{σ:St}{H:Hp}{s:Shared}{N:List Str}{scope:Scope}{cl:List (Str×Addr)}{C:Addr}{fp:List Addr}{Q:Value->Shared->Prop}{acc:Value}{E:XK}{use:Option (Value->Sem Unit)}
theorem UY (hp:Vy X E)(hst:X.stack=X.env::X.outer)(hex:X.ex=[])(hfr:X.env.frame=some X.env.locals)(I:Inv X pins σ H s)(hf:∀b∈fp,Vu X pins H b)(hC:s.heap.objs.size<C):
  ZQ (CXE X.prog X.w) (X.comp N scope cl C s H fp (notedBy (model X.prog X.w) X.A (compEnvC scope cl C X.env) λe s'=>compPost (model X.prog X.w) X.A X.xe use Q acc C (.error e) s')) E:=by
 intro pins1 σ1 H1 s1 e s' I1 ⟨a,T,C0,H',he,x,os,bare,un,hok,q⟩
 subst he
 have I2:=I1.call' os un hok bare (λb z=>nomatch z)
 have X1:Inv X pins σ H1 s1:=I.call' (ch:=fp) I1.os I1.base I1.hok I1.bare λb hb=>have z:=hf b hb;⟨z.2.2.2.1,z.2.1,z.2.2.2.2.1,z.2.2.2.2.2⟩
 have X2:Inv X pins σ H' s':=I.call' (ch:=fp) I2.os I2.base I2.hok I2.bare λb hb=>have z:=hf b hb;⟨z.2.2.2.1,z.2.1,z.2.2.2.2.1,z.2.2.2.2.2⟩
 have q1:∀b,s1.heap.get? b=none->X.s₀.heap.get? b=none/\b≠X.env.locals/\(∀y c,X.env.cells.lookup y=some c->c≠b)/\∀p∈X.pn++pins,p.1≠b:=λb nb=>by
  refine⟨?_,λz=>?_,λy c hy z=>?_,λp hp z=>?_⟩
  ·cases q:X.s₀.heap.get? b with
   |none=>rfl
   |some o=>obtain⟨o',e⟩:=X1.base.there b o q (by rw[hex];simp);rw[nb] at e;cases e
  ·obtain⟨m,⟨o,es,ep,ho,_⟩,_⟩:=X1.loc
   have ho':s1.heap.get? X.env.locals=some o:=ho
   rw[←z,nb] at ho';cases ho'
  ·obtain⟨v,o,ho,_⟩:=X1.cell y c hy
   rw[z,nb] at ho;cases ho
  ·obtain⟨e,_⟩:=X1.pin p hp
   rw[z,nb] at e;cases e
 have hl:s'.heap.FunFrames X.base (X.env::X.outer):=hst▸X2.stack
 have hfn:∀b∈frs (X.env::X.outer),H' b=none:=hst▸X2.stkFree
 have hA:X.A.frames=some (X.env::X.outer):=hst▸I.ok.frames
 obtain⟨a0,fl⟩:=x.fly hl
 show wpAny _ _ (noteFrame (.ref a) X.env) _ _ s'
 refine wpAny_looks_onW hA hfr fl λh2 hd2 up2=>?_
 obtain⟨st2,_,_,oe,vs,T2,oT,ts,ha,⟨hc,h0'⟩,hd,h1,hbT,hTa,hT,hdT,h3⟩:=hd2
 have hsz:3<ts.size:=(Array.getElem?_eq_some_iff.mp h3).1
 have st3:(Ku s'.heap (frs (X.env::X.outer)) a T).StaysIn (ZX h2 T2):=λb o e=>(X8 b λz=>by rw[z,hbT] at e;cases e).trans (st2 b o e)
 have ha3:(ZX h2 T2).get? a=some oe:=(X8 a (Ne.symm hTa)).trans ha
 obtain⟨T3,x3,hok3,un3⟩:=x.after hl hfn hok (λb o e=>un.there b o e (λz=>nomatch z)) st3
  ⟨oe,vs,T2,_,_,ha3,⟨hc,h0'⟩,hd,h1,hbT,hTa,Heap.get?_update_self _ hT (Obj.isFreed_of_fields (Obj.data_mapFields hdT _)),Obj.data_mapFields hdT _,by simp[hsz]⟩ (Heap.UpToSlots.trans up2 (Kx hT hdT))
 have eT:T3=T2:=by
  obtain⟨oe',vs',oT',ts',a0',ha',hc',h0'',hd',h1',_⟩:=x3.obj
  rw[ha3] at ha';cases ha'
  rw[hd] at hd';cases hd'
  rw[h1] at h1';cases h1';rfl
 subst eT
 have J3:Inv X pins σ H' {s' with heap:=ZX h2 T3}:=X2.past (by rw[hst];exact un3) hok3 λb hb=>by
  rcases List.mem_cons.mp hb with z |z
  ·rw[z];exact q1 a x.na
  ·rw[List.mem_singleton.mp z];exact q1 T x.nT
 obtain⟨m,hns,_⟩:=id I2.loc
 have hns2:h2.Ns C m:=up2.ns hns
 refine⟨m,hns2,λh' sb cenv _=>?_⟩
 have fC:H' C=none:=I2.free
 have okC:Vu X pins H' C:=I.fpOk (Nat.le_of_lt hC) fC
 obtain⟨oC,esC,epC,hoC,hdC,_⟩:=id hns2
 have hTC:T3≠C:=λz=>by rw[z,hoC] at hT;cases hT;rw[hdC] at hdT;cases hdT
 have haC:a≠C:=λz=>by
  obtain⟨m1,⟨o1,_,_,ho1,_⟩,_⟩:=id I1.loc
  have ho1':s1.heap.get? C=some o1:=ho1
  rw[←z,x.na] at ho1';cases ho1'
 have oth:∀b,b≠C->h'.get? b=h2.get? b:=sb.2
 have hT':h'.get? T3=some oT:=(oth T3 hTC).trans hT
 have ha':h'.get? a=some oe:=(oth a haC).trans ha
 unfold PySem.passOn
 refine wpAny_bind (wpAny_field (s:={s' with heap:=h'}) ha' hd h1 ?_)
 rw[if_neg (show ¬((Value.ref T3==Value.none)=true) from by simp)]
 refine wpAny_bind ?_
 unfold setFlight
 refine wpAny_bind (wpAny_field (s:={s' with heap:=h'}) ha' hd h1 ?_)
 rw[if_pos (show(Value.ref T3 !=Value.none)=true from by simp)]
 refine wpAny_setField (s:={s' with heap:=h'}) hT' hdT hsz (wpAny_throw ?_)
 have ot4:∀b,b∉ [T3,C]->(h'.update T3 (Obj.mapFields (·.setIfInBounds 3 (cenv.frame.elim Value.none λf=>rawInt f)))).get? b=(ZX h2 T3).get? b:=λb hb=>by
  have n1:b≠T3:=λz=>hb (by simp[z])
  have n2:b≠C:=λz=>hb (by simp[z])
  rw[Heap.get?_update_other _ _ (Ne.symm n1),oth b n2,X8 b n1]
 have hok4:HOk X.prog X.w H' (h'.update T3 (Obj.mapFields (·.setIfInBounds 3 (cenv.frame.elim Value.none λf=>rawInt f)))):=λb o e=>by
  refine(hok3 b o e).stay (λc u hc' q'=>?_) (λ_ q=>q) λ_ _ q=>q
  have hn:H' c≠none:=by
   rcases hc' with z |z
   ·rw[z,e];exact λy=>nomatch y
   ·rw[z];exact λy=>nomatch y
  exact(ot4 c λz=>by
   rcases List.mem_cons.mp z with z |z
   ·exact hn (z▸x3.fT)
   ·exact hn (List.mem_singleton.mp z▸fC)).trans q'
 have J4:=J3.past (Un.but ot4) hok4 λb hb=>by
  rcases List.mem_cons.mp hb with z |z
  ·rw[z];exact q1 T3 x3.nT
  ·rw[List.mem_singleton.mp z]
   exact⟨okC.2.2.2.1.elim (λz=>by rw[hex] at z;cases z) Heap.get?_none_of_le,okC.2.1,okC.2.2.2.2.1,okC.2.2.2.2.2⟩
 refine hp pins σ H' _ a T3 C0 _ J4 ⟨(q1 a x.na).1,(q1 T3 x3.nT).1,x3.fa,x3.fT,hTa,oe,vs,_,_,a0,(Heap.get?_update_other _ _ hTa).trans ha',hc,h0',hd,h1,Heap.get?_update_self _ hT' (Obj.isFreed_of_fields (Obj.data_mapFields hdT _)),Obj.data_mapFields hdT _,by simp[hsz];rfl⟩ (λb hb=>?_) q
 rcases List.mem_cons.mp hb with z |z
 ·rw[z];exact q1 a x.na
 ·rw[List.mem_singleton.mp z];exact q1 T3 x3.nT
end
section
variable {X:Cx}{elt tg iter:Expr}{ifs:List Expr}{scope:Scope}{pos:Pos}{wi:TI}{g:TG}{tt:TT}{te:TE}{E':XK}
end
noncomputable def Bg (P:Program)(w:World)(K:PySem.W.Frag)(p:Addr)(ts:List (Str×Int)):Prop:=(p==sysModules)=false/\∃vs:List (Key×Value),KV (ts.map λt=>((Sum.inr t.1:Key),V.int t.2)) vs/\∀h:Heap,K.In h->h.DictOf (Yi P w) p vs
theorem KY (x:Str):∀ts:List (Str×Int),VM (ts.map λt=>((Sum.inr t.1:Key),V.int t.2)) (Sum.inr x)=(ts.find? λt=>decide (t.1=x)).map λt=>V.int t.2
 | []=>rfl
 |t::ts=>by
  have ih:=KY x ts
  unfold VM at ih⊢
  rw[List.map_cons,List.find?_cons,List.find?_cons]
  by_cases e:t.1=x
  ·simp[e]
  ·have e2:¬(Sum.inr t.1:Key)=Sum.inr x:=λz=>e (Sum.inr.inj z)
   simp only[e,e2,decide_false]
   exact ih
section
variable {X:Cx}{i:Expr}{ty:TE}{p:Addr}{ts:List (Str×Int)}{n:Str}{np pos:Pos}
noncomputable def tCG (ts:List (Str×Int))(ty:TE):TE:=λσ H Q=>ty σ H λy H1=>∃ x t,y= .str x/\(ts.find? λt=>decide (t.1=x))=some t/\Q (.int t.2) H1
theorem U0 (hd:Bg X.prog X.w X.K p ts)(hg:Gl X n)(hm:X.mg n=some (.ref p))(hi:PE X i ty)(hs:B3 i)(hdb:(n==("__debug__":Str))=false:=by decide):PE X (.Subscript (.Name n np) i pos) (tCG ts ty):=by
 intro pins s σ H Q I h
 obtain⟨_,vs,rel,dd⟩:=hd
 refine Dm PySem.F.slot_dict_getitem.lookup hs (ZH I hg hm (thn (hi pins s σ H _ I h) λiv s2 r9=>?_) hdb)
 obtain⟨y,H2,I2,ry,x,t,ey,et,q2⟩:=r9
 subst ey
 have d2:=dd s2.heap I2.kIn
 obtain⟨w',hw,rw'⟩:=Uy.some_of (v:=V.int t.2) (o:=valueAt vs (Sum.inr x)) (by
  have:=rel.val (Sum.inr x)
  rw[KY,et] at this
  exact this)
 exact⟨d2.typeIs,wpAny_getItem_of (FI (k:=Sum.inr x) ry) d2.mapOf hw ⟨_,H2,I2.tok _,rw',q2⟩⟩
noncomputable def BY (b:Bool)(ts:List (Str×Int))(ty:TE):TE:=λσ H Q=>ty σ H λy H1=>∃ x,y= .str x/\Q (.bl (b==(ts.find? λt=>decide (t.1=x)).isSome)) H1
theorem UC (hd:Bg X.prog X.w X.K p ts)(hg:Gl X n)(hm:X.mg n=some (.ref p))(hi:PE X i ty)(hdb:(n==("__debug__":Str))=false:=by decide):PC X .NotIn i (.Name n np) (BY false ts ty):=by
 intro pins s σ H Q I h
 obtain⟨hz,vs,rel,dd⟩:=hd
 refine thn (hi pins s σ H _ I h) λiv s1 ⟨y,H1,I1,ry,x,ey,q1⟩=>ZH I1 hg hm ?_ hdb
 subst ey
 refine wpAny_notIn_of (FI (k:=Sum.inr x) ry) hz (dd s1.heap I1.kIn).mapOf ?_
 rw[←(rel.val (Sum.inr x)).isSome_eq,KY]
 refine⟨.bl _,H1,I1.tok _,?_,q1⟩
 show Value.bool _=Value.bool _
 cases(ts.find? λt=>decide (t.1=x))<;> rfl
end
section
variable {α β:Type}{K:PySem.W.Frag}{Er:Exc->Hp->Prop}{S:SC}{OO:List (List Xs)}{σ:St}
noncomputable def cgR (ts:List (Str×Int))(x:Str):Rs Int:=match ts.find? λt=>decide (t.1=x) with
 |some t=>.ok t.2
 |none=>.bad
theorem Cp {ts:List (Str×Int)}{x:Str}{e:Exc}:cgR ts x≠ .err e:=by unfold cgR;split<;> exact λz=>nomatch z
theorem VN {ts:List (Str×Int)}{ta:TE}{ma:Rs Str}(ha:EvB K Er S OO σ ta Xm ma):EvB K Er S OO σ (tCG ts ta) Xg (ma.bind λx=>cgR ts x):=λH Q w s P=>
 ha.run w s FB.tr P λx v H1 s1 w1 q1 e P1=>by
  obtain⟨c,hc,P3⟩:=P1.okOf λx=>Cp
  unfold cgR at hc
  split at hc
  ·rename_i t ht
   cases hc
   exact⟨x,t,e,ht,P3 _ H1 (Xn.refl _) rfl⟩
  ·cases hc
theorem Go {ts:List (Str×Int)}{ta:TE}{ma:Rs Str}(ha:EvB K Er S OO σ ta Xm ma):EvB K Er S OO σ (BY false ts ta) Xx (ma.bind λx=>.ok (!(ts.find? λt=>decide (t.1=x)).isSome)):=λH Q w s P=>
 ha.run w s FB.tr P λx v H1 s1 w1 q1 e P1=>⟨x,e,P1 _ H1 (Xn.refl _) (by
  show V.bl _=V.bl _
  cases(ts.find? λt=>decide (t.1=x)).isSome<;> rfl)⟩
end
noncomputable def Cr (w:World)(tk:List ((Str×Int)×Tok×Tok)):List DictEntry:=tk.map λq=>{hash:=PyData.keyHash w.params q.1.1,key:=.str q.1.1 q.2.1,val:=.int q.1.2 q.2.2}
theorem FV {P:Program}{w:World}{K:PySem.W.Frag}{p:Addr}{es:Array DictEntry}{ep:Nat}(tk:List ((Str×Int)×Tok×Tok))(hp:(p==sysModules)=false)(hl:K.lookup p=some ⟨.type "dict",none, .dict es ep, #[]⟩)(he:es.toList=Cr w tk)(hn:(tk.map (·.1.1)).Nodup):Bg P w K p (tk.map (·.1)):=by
 refine⟨hp,tk.map λq=>(Sum.inr q.1.1, .int q.1.2 q.2.2),?_,λh X=>⟨_,es,ep,X _ _ hl,⟨rfl,rfl,rfl⟩,rfl,λe h'=>?_,?_,?_⟩⟩
 ·clear he hn
  induction tk with
  |nil=>exact .nil
  |cons q tk ih=>exact .cons ⟨rfl,_,rfl⟩ ih
 ·have h2:e∈es.toList:=by simpa using h'
  rw[he] at h2
  obtain⟨q,_,rfl⟩:=List.mem_map.mp h2
  exact⟨Sum.inr q.1.1,Qp q.1.1 q.2.1,rfl⟩
 ·rw[he]
  clear he hn
  induction tk with
  |nil=>exact .nil
  |cons q tk ih=>exact .cons (Qp q.1.1 q.2.1) rfl ih
 ·rw[List.map_map]
  have e:((λx=>x.1)∘λq:(Str×Int)×Tok×Tok=>((Sum.inr q.1.1:Key),Value.int q.1.2 q.2.2))=λq=>(Sum.inr q.1.1:Key):=rfl
  rw[e]
  have e2:(tk.map λq=>(Sum.inr q.1.1:Key))=(tk.map (·.1.1)).map Sum.inr:=by rw[List.map_map];rfl
  rw[e2]
  exact List.Pairwise.map _ (λa b z y=>z (Sum.inr.inj y)) hn
section
variable {X:Cx}{elt tg iter:Expr}{ifs:List Expr}{scope:Scope}{pos:Pos}{wi:TI}{g:TG}{tt:TT}{te:TE}{E':XK}
theorem Gm {x:Str}{px spos:Pos}{sc:Scope}{N0:List Str}{tns:List Str}{caps:List (Nat×Str)}(j:Nat)(hp:Vy X E')(hc:X.calm=true)(hN:X.N.Nodup)(hj:X.N[j]?=some x)(hx:X.env.scope.names.lookup x=some .local)(hi:PI X tg iter wi)(hG:Q6 tns.length g)
  (hb:∀cl C s H ex E,ZQ (CXE X.prog X.w) (X.comp (tns++caps.map (·.2)) scope cl C s H ex E) E'->PG (X.comp (tns++caps.map (·.2)) scope cl C s H ex E) tg g/\PTs (X.comp (tns++caps.map (·.2)) scope cl C s H ex E) ifs tt/\PE (X.comp (tns++caps.map (·.2)) scope cl C s H ex E) elt te)
  (hst:X.stack=X.env::X.outer:=by rfl)(hex:X.ex=[]:=by rfl)(hfr:X.env.frame=some X.env.locals:=by rfl)
  (hsc:X.env.scope=sc:=by rfl)(hN0:X.N=N0:=by rfl)(ok:QP sc scope N0 tns caps=true:=by decide+kernel)
  (hsw:swapsWith (.ListComp elt [⟨tg,iter,ifs,0⟩] scope pos) (some (.Name x px)) spos.line X.env=pure true:=by rfl)
  (hs:∀x,foldedSetIterable iter X.env x=pure x:=by intro _;rfl):
  PS X (.Assign [.Name x px] (.ListComp elt [⟨tg,iter,ifs,0⟩] scope pos) spos) (G1 (Um tns.length caps wi g tt te) (Y8 j)):=by
 intro pins s0 σ H0 D I0 h0
 have okc:=COk.of hsc hN0 ok
 obtain⟨cl,ecl,hsub,hall⟩:=Vm (scope:=scope) (env:=X.env) λx hx hfr=>I0.ok.has x.1 (.inl (okc.free x hx hfr))
 rw[exec_Assign_Name_used _ _ _ _ hsw]
 refine wpAny_bind (wpAny_standAt (wpAny_bind ?_))
 show wpAny _ _ (do let _ ←comprehension (.ListComp elt [⟨tg,iter,ifs,0⟩] scope pos) scope X.env _ (newList []) false (eval iter X.env) (some (assign (.Name x px) X.env))) _ _ s0
 refine wpAny_bind (thn (wpAny_comprehension_free (use:=some (assign (.Name x px) X.env)) (Q:=λ_ s'=>SP X pins D .next s') rfl hs ecl okc.kind okc.loc (thn (hi pins s0 σ H0 _ I0 h0) λxv s₁ h₁=>thn h₁ λitv s ⟨it,fp,tn,J,H,e,I,T,t0,hf,W,⟨m0,w0⟩,turn⟩=>?_)) λ_ s' hq=>wpAny_pure (wpAny_pure hq))
 subst e
 refine wpAny_newObj_type (wpAny_newFunctionEnv okc.cell (by intro y hy;simp at hy) (λh₁ hns hsb₁=>?_) okc.kind)
 have hsz:∀o,(s.heap.push o).objs.size=s.heap.objs.size+1:=λo=>Heap.size_push ..
 have hC:s.heap.objs.size<(s.heap.push {cls:=.type "list",dict:=none,data:=.seq ([]:List Value).toArray}).objs.size:=Nat.lt_of_lt_of_eq (Nat.lt_succ_self _) (hsz _).symm
 generalize hCe:(s.heap.push {cls:=.type "list",dict:=none,data:=.seq ([]:List Value).toArray}).objs.size=C at hC hns hsb₁⊢
 have old:∀b o,s.heap.get? b=some o->h₁.get? b=some o:=λb o e=>hsb₁.extBut b o (Nat.ne_of_lt (Nat.lt_trans (Heap.lt_size e) hC)) (Heap.get?_push_of_some _ (Heap.get?_push_of_some _ e))
 have hacc:h₁.get? s.heap.objs.size=some (lob [] 0):=hsb₁.extBut _ _ (Nat.ne_of_lt hC) (Heap.get?_push_of_some _ (Heap.get?_push_size _ rfl))
 have hlt:∀b∈fp,b<s.heap.objs.size:=λb hb=>(T.obj _ _ t0 b hb).elim λo e=>Heap.lt_size e.1
 have okY:∀E,(X.comp (tns++caps.map (·.2)) scope cl C s H fp E).Ok:=λE=>K3 okc I hf hlt hsub hall hC
 have t1:tn 0 h₁:=T.keep _ _ _ t0 λb _ o e=>old b o e
 have z:=hb cl C s H fp (notedBy (model X.prog X.w) X.A (compEnvC scope cl C X.env) λe s'=>compPost (model X.prog X.w) X.A X.xe (some (assign (.Name x px) X.env)) (λ_ s'=>SP X pins D .next s') (.ref s.heap.objs.size) C (.error e) s') (UY hp hst hex hfr I hf hC)
 have loop:∀tk,codeAny (model X.prog X.w) X.A (.compLoop (.ListComp elt [⟨tg,iter,ifs,0⟩] scope pos) 0 (.ref it) (.ref s.heap.objs.size) (compEnvC scope cl C X.env)) (compPost (model X.prog X.w) X.A X.xe (some (assign (.Name x px) X.env)) (λ_ s'=>SP X pins D .next s') (.ref s.heap.objs.size) C) {s with heap:=h₁,toks:=tk}:=λtk=>
  QH (Y:=X.comp (tns++caps.map (·.2)) scope cl C s H fp _) rfl T hG z.1 z.2.1 z.2.2
   ⟨hc,rfl,Nat.ne_of_lt hC,λhz=>(I.stack.mem hz).2.elim λo ho=>absurd (Heap.lt_size ho.1) (Nat.lt_irrefl _),Nat.le_refl _,λx c e=>(I.cell x c (hsub x c e)).elim λv z=>Nat.ne_of_lt z.lt,λb hb=>Nat.ne_of_lt (hlt b hb),
    λb hb H' h'=>⟨h',Nat.ne_of_lt (Nat.lt_trans (hlt b hb) hC),(okY λ_ _=>True).exfs b hb, .inl hb,λx c e=>(hf b hb).2.2.2.2.1 x c (hsub x c e),λp hp=>JD (α:=Addr×Obj) hp⟩⟩
   (λj v e=>(Qc e).1) turn (λys its k H3 s4 I4 rv hz q=>by
    have ce:=Ua I hf (Nat.le_refl _) hC I4 I4.os I4.base I4.hok rfl rv hz
    obtain⟨mm,hns⟩:=ce.ns
    obtain⟨c0,c1,c2,c3,c4,c5⟩:=ce.fp
    show wpAny _ _ (assign (.Name x px) X.env (.ref s.heap.objs.size)) _ _ _
    refine wpAny_assign_Name (Ql ce.inv hN hj (.inl hx) (v:=.ref s.heap.objs.size) rfl (λs2 I2 chg=>?_) (.inr hx))
    obtain⟨c,hsb,hcc⟩:=chg
    have hCc:C≠c:=by
     rcases hcc with z |z
     ·rw[z];exact c1
     ·exact λe=>c4 x c z e.symm
    refine⟨mm,?_,λh' hs'=>?_⟩
    ·obtain⟨o,es,ep,ho,r⟩:=hns
     exact⟨o,es,ep,(hsb.2 C hCc).trans ho,r⟩
    ·exact⟨_,_,I2.turned (t':=s2.toks) (λb o hb' e=>(hs'.extBut b o hb' e)) c0 c1 c3 c4 c5,q⟩)
   (.mk 0 H [] [] 0 ⟨VL okc rfl (okY _) I hsub hall hC hns old,t1,λb hb=>(hf b hb).1,hacc,I.hok.fresh (Nat.le_refl _)⟩ .nil w0)
 exact codeAny_compStart_list (loop _) (T.self _ 0 _ _ _ t1 (loop _))
end
section
variable {X:Cx}
theorem GM (K:PySem.W.Frag)(h:X.K=K):OpR X (binaryOp .Add) (DI K):=by subst h;exact KB
noncomputable def Mx.kd:Mx->Nat
 | .i _=>0
 | .s _=>1
 | .b _=>2
theorem Bq {pins:List (Addr×Obj)}{σ:St}{H:Hp}{s:Shared}{x y:V}{v u:Value}{a b:Mx}{A:Around}(I:Inv X pins σ H s)(rx:XV x v)(ry:XV y u)(h1:rMx X.K H x a)(h2:rMx X.K H y b)(hk:a.kd=b.kd)(hu:A.units<cLine):SeqAt.EqAt A s v u (decide (a=b)):=by
 cases a with
 |i n=>cases b with
  |i m=>have:=eq_int.eq (A:=A) I rx ry (show Xg X.K H x n from h1) (show Xg X.K H y m from h2) (by omega);simpa using this
  |s z=>cases hk
  |b z=>cases hk
 |s n=>cases b with
  |i z=>cases hk
  |s m=>have:=FY.eq (A:=A) I rx ry (show Xm X.K H x n from h1) (show Xm X.K H y m from h2) (by omega);simpa using this
  |b z=>cases hk
 |b n=>cases b with
  |i z=>cases hk
  |s z=>cases hk
  |b m=>have:=Cz.eq (A:=A) I rx ry (show Xx X.K H x n from h1) (show Xx X.K H y m from h2) (by omega);simpa using this
noncomputable def BT (K:PySem.W.Frag):R2:=λx y H Q=>∃ as bs:List Mx,rPL rMx K H x as/\rPL rMx K H y bs/\as.map Mx.kd=bs.map Mx.kd/\Q (.bl (decide (as=bs))) H
theorem CZ (K:PySem.W.Frag)(hK:X.K=K)(hu:X.A.units+1<cLine):OpR X (compareOp .Eq) (BT K):=by
 subst hK
 intro pins s σ H x y v u Q I rx ry h
 obtain⟨as,bs,⟨a,xs,rfl,q1,p1⟩,⟨b,ys,rfl,q2,p2⟩,hk,q⟩:=h
 cases rx;cases ry
 obtain⟨its,r1,l1,_⟩:=I.tuple (SqT.of q1)
 obtain⟨its2,r2,l2,_⟩:=I.tuple (SqT.of q2)
 have n1:=r1.length
 have n2:=r2.length
 have m1:=Paired.len p1
 have m2:=Paired.len p2
 have:=SeqAt.RcAt.tuples (A:=X.A) (e:=λj=>decide (as[j]?=bs[j]?)) l1 l2 (by omega) (λj h1 h2=>by
  have h1':j<its.length:=by simpa using h1
  have h2':j<its2.length:=by simpa using h2
  obtain⟨x,ex,rx⟩:=Paired.getR (i:=j) (b:=its[j]) r1 (by simp[h1'])
  obtain⟨y,ey,ry⟩:=Paired.getR (i:=j) (b:=its2[j]) r2 (by simp[h2'])
  obtain⟨a,ea,ra⟩:=Paired.getL p1 ex
  obtain⟨b,eb,rb⟩:=Paired.getL p2 ey
  have kk:a.kd=b.kd:=by
   have z:=congrArg (λl=>l[j]?) hk
   simpa[ea,eb] using z
  have:=Bq (A:=X.A.in1) I rx ry ra rb kk (by rw[Yr];omega)
  simp only[ea,eb]
  simpa using this)
 rw[show its.toArray.size=as.length by simp only[List.size_toArray];omega,show its2.toArray.size=bs.length by simp only[List.size_toArray];omega,Dw] at this
 exact this _ _ _ _ ⟨.bl _,H,I,rfl,q⟩
noncomputable def eqL {α β:Type}[DecidableEq α]:α ⊕ β->α->Bool
 | .inl a,b=>decide (a=b)
 | .inr _,_=>false
noncomputable def BV {α β:Type}[DecidableEq α](K:PySem.W.Frag)(r:Enc α)(q:Enc β):R2:=λx y H Q=>∃ (a:α ⊕ β) (b:α),rEi r q K H x a/\r K H y b/\Q (.bl (eqL a b)) H
theorem CB {α β:Type}[DecidableEq α]{r:Enc α}{q:Enc β}{d:Nat}(E:EqOk r d)(c:Crs r q d)(hu:X.A.units+d<cLine):OpR X (compareOp .Eq) (BV X.K r q):=by
 intro pins s σ H x y v u Q I rx ry h
 obtain⟨a,b,h1,h2,q⟩:=h
 cases a with
 |inl a=>exact E.rc (A:=X.A) I rx ry h1 h2 hu _ _ _ _ ⟨.bl _,H,I,rfl,q⟩
 |inr a=>exact(c.rl (A:=X.A) I rx ry h1 h2 hu).2.1 _ _ _ _ ⟨.bl _,H,I,rfl,q⟩
end
section
variable {X:Cx}{e:Expr}{es:List Expr}{te:TE}{t:TJ}{n:Nat}{pos p:Pos}
theorem U3 (he:PE X e te)(hr:PJ X es (n+1000) t)(hz:n+1000<=sizeLine:=by exact Nat.le_of_ble_eq_true rfl):PJ X (.FormattedValue e (-1) none p::es) n (tJs te t):=λpins s σ H Q out I hl q=>by
 refine joinParts_cons (FormattedValue_plain (wpAny_mono (he pins s σ H _ I q) (λu s1 r9=>?_) λ_ _ z=>z))
 obtain⟨v,H1,I1,r,x,hv,hx,q1⟩:=r9
 subst hv
 obtain⟨tk,hu⟩:∃tk,u=Value.str x tk:=r
 subst hu
 have hle:(out++x).length<=n+1000:=by rw[strLen_append];omega
 exact formatField_str (λt' tk=>⟨Nat.le_trans hle hz,hr pins _ σ H1 Q _ (I1.tok _) hle q1⟩) (Nat.le_trans hx (by decide))
end
section
variable {α β:Type}{K:PySem.W.Frag}{Er:Exc->Hp->Prop}{S:SC}{OO:List (List Xs)}{σ:St}
theorem VP {te:TE}{t:TJ}{ma:Rs Str}{m:Rs Unit}(ha:EvB K Er S OO σ te Xm ma)(h:EvJ Er S OO σ t m):EvJ Er S OO σ (tJs te t) (ma.bind λa=>chk (a.length<=1000) m):=λH Q w s P=>
 ha.run w s FJ.tr P λa v H1 s1 w1 q1 e P1=>by
  obtain⟨hn,P3⟩:=PZ.chk P1
  exact⟨a,e,hn,h H1 Q w1 q1 P3⟩
theorem Kc {ta tb:TE}{r:Enc α}[z:MonoE r]{ma mb:Rs (List α)}(ha:EvB K Er S OO σ ta (rPL r) ma)(hb:EvB K Er S OO σ tb (rPL r) mb):EvB K Er S OO σ (tOp (DI K) ta tb) (rPL r) (ma.bind λas=>mb.bind λbs=>chk (0<as.length/\as.length+bs.length<=sizeLine) (.ok (as++bs))):=λH Q w s P=>
 ha.run w s FB.tr P λas x H1 s1 w1 q1 ⟨p,xs,e,q,pr⟩ P1=>hb.run w1 q1 FB.tr P1 λbs y H2 s2 w2 q2 ⟨p',ys,e',q',pr'⟩ P2=>by
  obtain⟨⟨h1,h2⟩,P3⟩:=PZ.chk P2
  have hl:=Paired.len pr
  have hl':=Paired.len pr'
  have pr2:Paired (r K H2) xs as:=Paired.imp2 (λ_ _ h=>z.mono s2 h) pr
  refine⟨p,p',xs,ys,e,e',SqT.of (s2 _ _ q),SqT.of q',λz=>by rw[z] at hl;simp at hl;omega,by rw[hl,hl'];exact h2,λhz=>?_,λ_ a ha=>P3 _ _ (XA ha _) ⟨a,_,rfl,XU,Paired.imp2 (λ_ _ h=>z.mono (XA ha _) h) (Paired.app pr2 pr')⟩⟩
  subst hz
  have ha:bs=[]:=List.length_eq_zero_iff.mp (by rw[←hl'];rfl)
  subst ha
  exact P3 _ H2 (Xn.refl _) ⟨p,xs,rfl,s2 _ _ q,by rw[List.append_nil];exact pr2⟩
noncomputable def U1 (x y z:Bool):Mx->Bool
 | .i _=>x
 | .s _=>y
 | .b _=>z
theorem ZY {te:TE}{m:Rs Mx}(t:String)(x y z:Bool)(hx:PySem.W.kitOne K (.type "int") (.type t)=some x)(hy:PySem.W.kitOne K (.type "str") (.type t)=some y)(hz:PySem.W.kitOne K (.type "bool") (.type t)=some z)(he:EvB K Er S OO σ te rMx m):
  EvB K Er S OO σ (tCB (λxs H Q=>∃ x n t b,xs=[x, .ty n]/\TyOf K H x t/\PySem.W.kitOne K t (.type n)=some b/\Q (.bl b) H) (XQ te (XQ (tC (.ty t)) Zs))) Xx (m.bind λa=>.ok (U1 x y z a)):=λH Q w s P=>
 he.run w s FB.tr P λa v H1 s1 w1 q1 r1 P1=>by
  cases(show v=a.v from r1)
  cases a with
  |i n=>exact⟨_,t,_,x,rfl, .int n,hx,P1 _ H1 (Xn.refl _) rfl⟩
  |s n=>exact⟨_,t,_,y,rfl, .str n,hy,P1 _ H1 (Xn.refl _) rfl⟩
  |b n=>exact⟨_,t,_,z,rfl, .bl n,hz,P1 _ H1 (Xn.refl _) rfl⟩
theorem ZR (K:PySem.W.Frag):PySem.W.kitOne K (.type "str") (.type "bool")=some false:=by
 first
  |rfl
  |decide+kernel
theorem Qf (K:PySem.W.Frag):PySem.W.kitOne K (.type "int") (.type "str")=some false:=by
 first
  |rfl
  |decide+kernel
theorem ZL (K:PySem.W.Frag):PySem.W.kitOne K (.type "bool") (.type "str")=some false:=by
 first
  |rfl
  |decide+kernel
theorem Fx {ta tb:TE}{ma mb:Rs (List Mx)}(ha:EvB K Er S OO σ ta (rPL rMx) ma)(hb:EvB K Er S OO σ tb (rPL rMx) mb):EvB K Er S OO σ (tOp (BT K) ta tb) Xx (ma.bind λa=>mb.bind λb=>chk (a.map Mx.kd=b.map Mx.kd) (.ok (decide (a=b)))):=λH Q w s P=>
 ha.run w s FB.tr P λa x H1 s1 w1 q1 r1 P1=>hb.run w1 q1 FB.tr P1 λb y H2 s2 w2 q2 r2 P2=>by
  obtain⟨hk,P3⟩:=PZ.chk P2
  exact⟨a,b,MonoE.mono s2 r1,r2,hk,P3 _ H2 (Xn.refl _) rfl⟩
theorem Dh [DecidableEq α]{r:Enc α}{q:Enc β}[MonoE r][MonoE q]{ta tb:TE}{ma:Rs (α ⊕ β)}{mb:Rs α}(ha:EvB K Er S OO σ ta (rEi r q) ma)(hb:EvB K Er S OO σ tb r mb):EvB K Er S OO σ (tOp (BV K r q) ta tb) Xx (ma.bind λa=>mb.bind λb=>.ok (eqL a b)):=λH Q w s P=>
 ha.run w s FB.tr P λa x H1 s1 w1 q1 r1 P1=>hb.run w1 q1 FB.tr P1 λb y H2 s2 w2 q2 r2 P2=>⟨a,b,MonoE.mono s2 r1,r2,P2 _ H2 (Xn.refl _) rfl⟩
end
end L2
namespace My
open PySem L2
noncomputable abbrev XR:List Str:=["PlaitError","NoMove","NoLine"]
noncomputable abbrev tsC:List (Str×Int):=[("turn",2),("curl",3),("uncurl",2),("lay",6),("unlay",4),("pass",6)]
noncomputable def Yc (a_0:Int):Rs Str:=(Rs.bind (Rs.bind (Rs.ok a_0) λx1=>(Rs.bind (Rs.ok (1:Int)) λx2=>(Rs.ok (decide (x1=x2))))) λx3=>(if x3=true then(Rs.ok ("+":Str)) else(Rs.ok ("-":Str))))
noncomputable def Yb (a_0:(List Mx)):Rs Str:=(Rs.bind (Rs.bind (Rs.bind (Rs.bind (Rs.ok a_0) λx3=>(Rs.bind (Rs.ok (0:Int)) λx4=>(atR x3 x4))) mxS) λx5=>(cgR tsC x5)) λa1=>(Rs.bind (Rs.bind (Rs.bind (Rs.bind (Rs.bind (Rs.bind (Rs.ok a_0) λx12=>(Rs.bind (Rs.ok (0:Int)) λx13=>(atR x12 x13))) mxS) λx14=>(Rs.bind (Rs.ok []) λx15=>(Rs.ok (x14::x15)))) λx11=>(chk (x11.length<=sizeLine) (Rs.ok x11))) λx9=>(Rs.bind (Rs.bind (Rs.bind (Rs.ok a_0) λx20=>(Rs.bind (Rs.bind (Rs.ok (1:Int)) λx16=>(Rs.ok (some x16))) λx21=>(Rs.bind (Rs.bind (Rs.bind (Rs.ok a1) λx17=>(Rs.bind (Rs.ok (1:Int)) λx18=>(Rs.ok (x17+x18)))) λx19=>(Rs.ok (some x19))) λx22=>(chk (¬(HT.sIx x20.length 0 x21=0/\HT.sIx x20.length x20.length x22=x20.length)) (Rs.ok (JV x20 x21 x22)))))) λx26=>(Uw x26 (λa24=>(Rs.bind (Rs.bind (Rs.ok a24) mxI) λx28=>(chk (x28.natAbs.log2<1920) (Rs.ok (sI x28))))))) λx10=>(Ux x9 x10))) λa6=>(Rs.bind (Rs.bind (Rs.bind (Rs.bind (Rs.bind (Rs.ok a_0) λx29=>(Rs.bind (Rs.ok (0:Int)) λx30=>(atR x29 x30))) mxS) λx31=>(Rs.bind (Rs.ok ("curl":Str)) λx32=>(Rs.ok (decide (x31=x32))))) λx33=>(if x33=true then(Rs.bind (Rs.bind (Rs.bind (Rs.bind (Rs.bind (Rs.ok a_0) λx37=>(Rs.bind (Rs.ok (4:Int)) λx38=>(atR x37 x38))) mxS) λx45=>(Rs.bind (Rs.bind (Rs.bind (Rs.bind (Rs.bind (Rs.ok a_0) λx40=>(Rs.bind (Rs.ok (5:Int)) λx41=>(atR x40 x41))) mxI) λx42=>(noE (Yc x42))) λx43=>(Rs.bind (Rs.ok []) λx44=>(Rs.ok (x43::x44)))) λx46=>(Rs.ok (x45::x46)))) λx36=>(chk (x36.length<=sizeLine) (Rs.ok x36))) λa47=>(chk (a6.length+a47.length<=sizeLine) ((λa49=>(Rs.ok (a49))) (a6++a47)))) else(Rs.ok (a6)))) λg51=>(Rs.bind (Rs.bind (Rs.bind (Rs.bind (Rs.bind (Rs.ok a_0) λx52=>(Rs.bind (Rs.ok (0:Int)) λx53=>(atR x52 x53))) mxS) λx54=>(Rs.bind (Rs.ok ("lay":Str)) λx55=>(Rs.ok (decide (x54=x55))))) λx56=>(if x56=true then(Rs.bind (Rs.bind (Rs.bind (Rs.bind (Rs.bind (Rs.bind (Rs.ok a_0) λx60=>(Rs.bind (Rs.ok (7:Int)) λx61=>(atR x60 x61))) mxB) λx62=>(if x62=true then(Rs.ok ("crossed":Str)) else(Rs.ok ("plain":Str)))) λx69=>(Rs.bind (Rs.bind (Rs.bind (Rs.bind (Rs.bind (Rs.ok a_0) λx64=>(Rs.bind (Rs.ok (8:Int)) λx65=>(atR x64 x65))) mxI) λx66=>(noE (Yc x66))) λx67=>(Rs.bind (Rs.ok []) λx68=>(Rs.ok (x67::x68)))) λx70=>(Rs.ok (x69::x70)))) λx59=>(chk (x59.length<=sizeLine) (Rs.ok x59))) λa71=>(chk (g51.length+a71.length<=sizeLine) ((λa73=>(Rs.ok (a73))) (g51++a71)))) else(Rs.ok (g51)))) λg75=>(Rs.bind (Rs.ok (" ":Str)) λx76=>(Rs.bind (Rs.ok g75) λx77=>(chk ((x77.map (·.length)).sum+x77.length*x76.length<=16777216) (Rs.ok (Txt.join x76 x77)))))))))
noncomputable def Yn (a_0:Str):Rs (List Str):=(Rs.bind (Rs.bind (Rs.ok a_0) λx1=>(Rs.bind (Rs.ok ("":Str)) λx2=>(Rs.ok (!(decide (x1=x2)))))) λx5=>(if x5=true then(Rs.bind (Rs.ok a_0) λx3=>(Rs.bind (Rs.ok (" ":Str)) λx4=>(chk ((x4.length==0)=false/\x3.length<=sizeLine/\(Txt.split x3 x4).length<=sizeLine) (Rs.ok (Txt.split x3 x4))))) else(Rs.ok [])))
noncomputable def Xw (a_0:Str):Rs Int:=(Rs.bind (Rs.bind (Rs.bind (Rs.ok a_0) λx3=>(Rs.bind (Rs.ok ("-":Str)) λx4=>(Rs.ok (Txt.startswith x3 x4)))) λx9=>(if x9=true then(Rs.bind (Rs.ok a_0) λx6=>(Rs.bind (Rs.bind (Rs.ok (1:Int)) λx5=>(Rs.ok (some x5))) λx7=>(Rs.bind (Rs.ok none) λx8=>(chk (x6.length<=sizeLine) (Rs.ok (Txt.slice x6 x7 x8)))))) else(Rs.ok a_0))) λa1=>(Rs.bind (orR (Rs.bind (Rs.bind (Rs.ok a1) λx10=>(Rs.ok (Txt.isdigit x10))) λx11=>(Rs.ok (!x11))) (Rs.bind (Rs.bind (Rs.ok a1) λx12=>(chk (x12.length<=sizeLine) (Rs.ok (x12.length:Int)))) λx13=>(Rs.bind (Rs.ok (18:Int)) λx14=>(Rs.ok (decide (x14<x13)))))) λx15=>(if x15=true then(Rs.bind (Rs.bind (Rs.ok a_0) λx16=>(chk ((reprText x16).length<=2000) (Rs.ok ()))) λ_=>(Rs.err ⟨"NoLine",Pay.non⟩)) else(Rs.bind (Rs.bind (Rs.ok a_0) Fu) λa18=>(Rs.bind (Rs.bind (Rs.bind (Rs.ok a18) λx20=>(chk (x20.natAbs.log2<1920) (Rs.ok (sI x20)))) λx21=>(Rs.bind (Rs.ok a_0) λx22=>(Rs.ok (!(decide (x21=x22)))))) λx23=>(if x23=true then(Rs.bind (Rs.bind (Rs.ok a_0) λx24=>(chk ((reprText x24).length<=2000) (Rs.ok ()))) λ_=>(Rs.err ⟨"NoLine",Pay.non⟩)) else(Rs.ok a18)))))))
noncomputable def Ys (a_0:Str):Rs Int:=(Rs.bind (Rs.bind (Rs.ok a_0) λx4=>(Rs.bind (Rs.bind (Rs.bind (Rs.ok ("+":Str)) λx1=>(Rs.bind (Rs.ok ("-":Str)) λx2=>(Rs.ok (x1,x2)))) λx3=>(Rs.ok [x3.1,x3.2])) λx5=>(Rs.ok (!(decide (x4∈x5)))))) λx6=>(if x6=true then(Rs.bind (Rs.bind (Rs.ok a_0) λx7=>(chk ((reprText x7).length<=2000) (Rs.ok ()))) λ_=>(Rs.err ⟨"NoLine",Pay.non⟩)) else(Rs.bind (Rs.bind (Rs.ok a_0) λx9=>(Rs.bind (Rs.ok ("+":Str)) λx10=>(Rs.ok (decide (x9=x10))))) λx12=>(if x12=true then(Rs.ok (1:Int)) else(Rs.bind (Rs.ok (1:Int)) λx11=>(Rs.ok (-x11)))))))
noncomputable def X6 (a_0:(List Str))(a_1:Str)(a_2:Str):Rs Str:=(Rs.bind (orR (Rs.bind (Rs.bind (Rs.ok a_0) λx1=>(Rs.ok (x1.length:Int))) λx2=>(Rs.bind (Rs.ok (2:Int)) λx3=>(Rs.ok (!(decide (x2=x3)))))) (Rs.bind (Rs.bind (Rs.ok a_0) λx4=>(Rs.bind (Rs.ok (0:Int)) λx5=>(atR x4 x5))) λx9=>(Rs.bind (Rs.bind (Rs.bind (Rs.ok a_1) λx6=>(Rs.bind (Rs.ok a_2) λx7=>(Rs.ok (x6,x7)))) λx8=>(Rs.ok [x8.1,x8.2])) λx10=>(Rs.ok (!(decide (x9∈x10))))))) λx11=>(if x11=true then(Rs.bind (Rs.bind (Rs.ok a_1) λx13=>(chk (x13.length<=1000) (Rs.bind (Rs.ok a_2) λx12=>(chk (x12.length<=1000) (Rs.ok ()))))) λ_=>(Rs.err ⟨"NoLine",Pay.non⟩)) else(Rs.bind (Rs.ok a_0) λx15=>(Rs.bind (Rs.ok (0:Int)) λx16=>(atR x15 x16)))))
noncomputable def XX (a_0:Str)(a_1:(List Str)):Rs (List Mx):=(Rs.bind (Rs.bind (Rs.ok a_0) λx1=>(Rs.bind (Rs.ok ("curl":Str)) λx2=>(Rs.ok (decide (x1=x2))))) λx3=>(if x3=true then(Rs.bind (Rs.bind (Rs.bind (Rs.bind (Rs.ok a_1) λx4=>(Rs.bind (Rs.ok ("over":Str)) λx5=>(Rs.bind (Rs.ok ("under":Str)) λx6=>(X6 x4 x5 x6)))) λx7=>(Rs.ok (Mx.s x7))) λx14=>(Rs.bind (Rs.bind (Rs.bind (Rs.bind (Rs.bind (Rs.ok a_1) λx8=>(Rs.bind (Rs.ok (1:Int)) λx9=>(atR x8 x9))) λx10=>(Ys x10)) λx11=>(Rs.ok (Mx.i x11))) λx12=>(Rs.bind (Rs.ok []) λx13=>(Rs.ok (x12::x13)))) λx15=>(Rs.ok (x14::x15)))) λx16=>(chk (x16.length<=sizeLine) (Rs.ok x16))) else(Rs.bind (Rs.bind (Rs.ok a_0) λx17=>(Rs.bind (Rs.ok ("lay":Str)) λx18=>(Rs.ok (decide (x17=x18))))) λx19=>(if x19=true then(Rs.bind (Rs.bind (Rs.bind (Rs.bind (Rs.bind (Rs.ok a_1) λx20=>(Rs.bind (Rs.ok ("crossed":Str)) λx21=>(Rs.bind (Rs.ok ("plain":Str)) λx22=>(X6 x20 x21 x22)))) λx23=>(Rs.bind (Rs.ok ("crossed":Str)) λx24=>(Rs.ok (decide (x23=x24))))) λx25=>(Rs.ok (Mx.b x25))) λx32=>(Rs.bind (Rs.bind (Rs.bind (Rs.bind (Rs.bind (Rs.ok a_1) λx26=>(Rs.bind (Rs.ok (1:Int)) λx27=>(atR x26 x27))) λx28=>(Ys x28)) λx29=>(Rs.ok (Mx.i x29))) λx30=>(Rs.bind (Rs.ok []) λx31=>(Rs.ok (x30::x31)))) λx33=>(Rs.ok (x32::x33)))) λx34=>(chk (x34.length<=sizeLine) (Rs.ok x34))) else(Rs.bind (Rs.bind (Rs.bind (Rs.ok a_1) λx35=>(Rs.ok (x35.length:Int))) λx36=>(Rs.bind (Rs.ok (0:Int)) λx37=>(Rs.ok (decide (x37<x36))))) λx38=>(if x38=true then(Rs.bind (Rs.ok ()) λ_=>(Rs.err ⟨"NoLine",Pay.non⟩)) else(Rs.bind (Rs.ok []) λx40=>(chk (x40.length<=sizeLine) (Rs.ok x40)))))))))
noncomputable def Ya (a_0:Str):Rs (List Mx):=(Rs.bind (Rs.bind (Rs.ok a_0) λx4=>(noE (Yn x4))) λa1=>(Rs.bind (orR (Rs.bind (Rs.bind (Rs.ok a1) λx5=>(Rs.ok (x5.length:Int))) λx6=>(Rs.bind (Rs.ok (0:Int)) λx7=>(Rs.ok (decide (x6=x7))))) (Rs.bind (Rs.bind (Rs.ok a1) λx8=>(Rs.bind (Rs.ok (0:Int)) λx9=>(atR x8 x9))) λx10=>(Rs.ok (!(tsC.find? λt=>decide (t.1=x10)).isSome)))) λx11=>(if x11=true then(Rs.bind (Rs.ok ()) λ_=>(Rs.err ⟨"NoLine",Pay.non⟩)) else(Rs.bind (Rs.bind (Rs.bind (Rs.bind (Rs.ok a1) λx15=>(Rs.bind (Rs.ok (0:Int)) λx16=>(atR x15 x16))) λx17=>(cgR tsC x17)) λx18=>(Rs.bind (Rs.ok (1:Int)) λx19=>(Rs.ok (x18+x19)))) λa13=>(Rs.bind (Rs.bind (Rs.bind (Rs.ok a1) λx22=>(Rs.bind (Rs.ok (0:Int)) λx23=>(atR x22 x23))) λx28=>(Rs.bind (Rs.bind (Rs.ok a1) λx25=>(Rs.bind (Rs.bind (Rs.ok a13) λx24=>(Rs.ok (some x24))) λx26=>(Rs.bind (Rs.ok none) λx27=>(Rs.ok (JV x25 x26 x27))))) λx29=>(XX x28 x29))) λa20=>(Rs.bind (Rs.bind (Rs.bind (Rs.ok a1) λx34=>(Rs.bind (Rs.bind (Rs.ok (1:Int)) λx32=>(Rs.ok (some x32))) λx35=>(Rs.bind (Rs.bind (Rs.ok a13) λx33=>(Rs.ok (some x33))) λx36=>(Rs.ok (JV x34 x35 x36))))) λx40=>(Uw x40 (λa38=>(Rs.bind (Rs.ok a38) λx41=>(Xw x41))))) λa30=>(Rs.bind (Rs.bind (Rs.bind (Rs.ok a1) λx42=>(Rs.ok (x42.length:Int))) λx43=>(Rs.bind (Rs.ok a13) λx44=>(Rs.ok (decide (x43<x44))))) λx45=>(if x45=true then(Rs.bind (Rs.ok ()) λ_=>(Rs.err ⟨"NoLine",Pay.non⟩)) else(Rs.bind (Rs.bind (Rs.bind (Rs.bind (Rs.bind (Rs.bind (Rs.ok a1) λx47=>(Rs.bind (Rs.ok (0:Int)) λx48=>(atR x47 x48))) λx49=>(Rs.ok (Mx.s x49))) λx50=>(Rs.bind (Rs.ok []) λx51=>(Rs.ok (x50::x51)))) λx52=>(chk (x52.length<=sizeLine) (Rs.ok x52))) λx55=>(Rs.bind (Rs.bind (Rs.bind (Rs.ok a30) λx53=>(Rs.ok x53)) λx54=>(Rs.ok (List.map Mx.i x54))) λx56=>(chk (0<x56.length/\x55.length+x56.length<=sizeLine) (Rs.ok (x55++x56))))) λx57=>(Rs.bind (Rs.ok a20) λx58=>(chk (0<x57.length/\x57.length+x58.length<=sizeLine) (Rs.ok (x57++x58)))))))))))))
noncomputable def Qa (a_0:(List Int))(a_1:Int):Rs Int:=(Rs.bind (Rs.bind (Rs.ok a_1) λx2=>(Rs.bind (Rs.bind (Rs.ok a_0) λx1=>(Rs.ok (x1.length:Int))) λx3=>(Rs.ok (decide (x2<x3))))) λx4=>(if x4=true then(Rs.bind (Rs.ok a_0) λx5=>(Rs.bind (Rs.ok a_1) λx6=>(atR x5 x6))) else(Rs.bind (Rs.ok (5:Int)) λa7=>(Rs.bind (Rs.bind (Rs.ok a_0) λx10=>(Rs.bind (Rs.ok none) λx11=>(Rs.bind (Rs.bind (Rs.ok (63:Int)) λx9=>(Rs.ok (some x9))) λx12=>(Rs.ok (JV x10 x11 x12))))) λx39=>(Rs.bind (forN x39 (a7) (λg15 a17=>(Rs.bind (Rs.bind (Rs.bind (Rs.bind (Rs.bind (Rs.ok g15) λx21=>(Rs.bind (Rs.ok (48271:Int)) λx22=>(J2 x21 x22))) λx25=>(Rs.bind (Rs.bind (Rs.ok a17) λx23=>(Rs.bind (Rs.ok (1000003:Int)) λx24=>(Vj x23 x24))) λx26=>(Rs.ok (x25+x26)))) λx27=>(Rs.bind (Rs.ok (1:Int)) λx28=>(Rs.ok (x27+x28)))) λx29=>(Rs.bind (Rs.ok (2147483647:Int)) λx30=>(Vj x29 x30))) λa19=>(Rs.ok (a19))))) λg31=>(Rs.bind (Rs.bind (Rs.ok g31) λx35=>(Rs.bind (Rs.bind (Rs.ok (7919:Int)) λx33=>(Rs.bind (Rs.ok a_1) λx34=>(J2 x33 x34))) λx36=>(Rs.ok (x35+x36)))) λx37=>(Rs.bind (Rs.ok (1000003:Int)) λx38=>(Vj x37 x38))))))))
noncomputable def Vp (a_0:Int)(a_1:Int):Rs Int:=(Rs.bind (Rs.bind (Rs.bind (Rs.bind (Rs.bind (Rs.bind (Rs.ok a_0) λx3=>(Rs.bind (Rs.ok (2147483629:Int)) λx4=>(Vj x3 x4))) λx7=>(Rs.bind (Rs.bind (Rs.ok (1013:Int)) λx5=>(Rs.bind (Rs.ok a_1) λx6=>(J2 x5 x6))) λx8=>(Rs.ok (x7+x8)))) λx9=>(Rs.bind (Rs.ok (7919:Int)) λx10=>(Rs.ok (x9+x10)))) λx11=>(Rs.bind (Rs.ok (3:Int)) λx12=>(Uu x11 x12))) λx13=>(Rs.bind (Rs.ok (2147483647:Int)) λx14=>(Vj x13 x14))) λa1=>(Rs.bind (Rs.bind (Rs.bind (Rs.bind (Rs.bind (Rs.ok a1) λx17=>(Rs.bind (Rs.ok (40699:Int)) λx18=>(J2 x17 x18))) λx23=>(Rs.bind (Rs.bind (Rs.bind (Rs.ok (3793:Int)) λx19=>(Rs.bind (Rs.ok a_1) λx20=>(J2 x19 x20))) λx21=>(Rs.bind (Rs.ok a_1) λx22=>(J2 x21 x22))) λx24=>(Rs.ok (x23+x24)))) λx25=>(Rs.bind (Rs.ok (11:Int)) λx26=>(Rs.ok (x25+x26)))) λx27=>(Rs.bind (Rs.ok (2147483399:Int)) λx28=>(Vj x27 x28))) λa15=>(Rs.bind (Rs.ok a15) λx29=>(Rs.bind (Rs.ok (101:Int)) λx30=>(Bd x29 x30)))))
noncomputable def Qo (a_0:(List Int))(a_1:Int)(a_2:(List Int)):Rs (List Int):=(Rs.bind (Rs.bind (Rs.ok a_0) λx4=>(Rs.bind (Rs.ok a_1) λx5=>(noE (Qa x4 x5)))) λa1=>(Rs.bind (Rs.ok a1) λa6=>(Rs.bind (Rs.ok []) λa8=>(Rs.bind (Rs.bind (Rs.bind (Rs.ok a_2) λx11=>(Rs.ok (x11.length:Int))) λx12=>(G3 0 x12)) λx81=>(Rs.bind (forN x81 (a8,a6) (λg15 a17=>(Rs.bind (Rs.bind (Rs.bind (Rs.ok a1) λx21=>(Rs.bind (Rs.bind (Rs.ok (10:Int)) λx19=>(Rs.bind (Rs.ok (18:Int)) λx20=>(Uu x19 x20))) λx22=>(Rs.ok (decide (x21<x22))))) λx23=>(if x23=true then(Rs.bind (Rs.bind (Rs.bind (Rs.ok a1) λx27=>(Rs.bind (Rs.ok a17) λx28=>(noE (Vp x27 x28)))) λx31=>(Rs.bind (Rs.bind (Rs.ok a_2) λx29=>(Rs.bind (Rs.ok a17) λx30=>(atR x29 x30))) λx32=>(Vj x31 x32))) λa33=>(chk (g15.1.length<sizeLine) ((λa35=>(Rs.ok (a35,g15.2))) (g15.1++[a33])))) else(Rs.bind (Rs.bind (Rs.bind (Rs.ok g15.2) λx36=>(Rs.bind (Rs.ok (0:Int)) λx37=>(Rs.ok (decide (x37<x36))))) λx38=>(if x38=true then(Rs.bind (Rs.bind (Rs.ok g15.2) λx43=>(Rs.bind (Rs.bind (Rs.ok a_2) λx41=>(Rs.bind (Rs.ok a17) λx42=>(atR x41 x42))) λx44=>(Vj x43 x44))) λa45=>(chk (g15.1.length<sizeLine) ((λa47=>(Rs.bind (Rs.bind (Rs.ok g15.2) λx52=>(Rs.bind (Rs.bind (Rs.ok a_2) λx50=>(Rs.bind (Rs.ok a17) λx51=>(atR x50 x51))) λx53=>(Bd x52 x53))) λa48=>(Rs.ok (a48,a47)))) (g15.1++[a45])))) else(Rs.bind (Rs.bind (Rs.ok a_0) λx63=>(Rs.bind (Rs.bind (Rs.bind (Rs.bind (Rs.ok a_1) λx57=>(Rs.bind (Rs.ok (1:Int)) λx58=>(Rs.ok (x57+x58)))) λx59=>(Rs.bind (Rs.ok a17) λx60=>(Rs.ok (x59+x60)))) λx61=>(Rs.bind (Rs.ok (63:Int)) λx62=>(Vj x61 x62))) λx64=>(noE (Qa x63 x64)))) λa54=>(Rs.bind (Rs.bind (Rs.bind (Rs.ok a54) λx66=>(Rs.bind (Rs.ok a17) λx67=>(noE (Vp x66 x67)))) λx70=>(Rs.bind (Rs.bind (Rs.ok a_2) λx68=>(Rs.bind (Rs.ok a17) λx69=>(atR x68 x69))) λx71=>(Vj x70 x71))) λa72=>(chk (g15.1.length<sizeLine) ((λa74=>(Rs.ok (g15.2,a74))) (g15.1++[a72]))))))) λg76=>(Rs.ok (g76.2,g76.1))))) λg78=>(Rs.ok (g78.1,g78.2))))) λg79=>(Rs.ok g79.1))))))
noncomputable def QO (a_0:Str):Rs ((Str×Bool) ⊕ (Str×(List Mx))):=(Rs.tryC (Rs.bind (Rs.ok a_0) λx8=>(Ya x8)) (λa6=>(Rs.bind (Rs.bind (Rs.ok ("yes":Str)) λx9=>(Rs.bind (Rs.ok a6) λx10=>(Rs.ok (x9,x10)))) λx11=>(Rs.ok (Sum.inr x11)))) (λx1=>(chk (cau XR x1.cls "PlaitError" =true) (Rs.bind (Rs.bind (Rs.ok ("no":Str)) λx3=>(Rs.bind (Bh (Rs.ok (Za x1.cls "NoLine")) (Rs.bind (Rs.ok (Za x1.cls "NoMove")) λx2=>(Rs.ok (!x2)))) λx4=>(Rs.ok (x3,x4)))) λx5=>(Rs.ok (Sum.inl x5))))))
noncomputable def YA (a_0:(List Int))(a_1:Int):Rs Int:=(Rs.bind (Rs.bind (Rs.bind (Rs.ok a_0) λx7=>(Rs.bind (Rs.bind (Rs.bind (Rs.ok (3:Int)) λx3=>(Rs.bind (Rs.ok a_1) λx4=>(J2 x3 x4))) λx5=>(Rs.bind (Rs.ok (3:Int)) λx6=>(Rs.ok (x5+x6)))) λx8=>(atR x7 x8))) λx32=>(Rs.bind (Rs.bind (Rs.bind (Rs.bind (Rs.ok (10:Int)) λx22=>(Rs.bind (Rs.bind (Rs.bind (Rs.ok (10:Int)) λx10=>(Rs.bind (Rs.ok (6:Int)) λx11=>(Uu x10 x11))) λx20=>(Rs.bind (Rs.bind (Rs.bind (Rs.ok (10:Int)) λx12=>(Rs.bind (Rs.ok (18:Int)) λx13=>(Uu x12 x13))) λx18=>(Rs.bind (Rs.bind (Rs.bind (Rs.ok (10:Int)) λx14=>(Rs.bind (Rs.ok (59:Int)) λx15=>(Uu x14 x15))) λx16=>(Rs.bind (Rs.ok []) λx17=>(Rs.ok (x16::x17)))) λx19=>(Rs.ok (x18::x19)))) λx21=>(Rs.ok (x20::x21)))) λx23=>(Rs.ok (x22::x23)))) λx9=>(chk (x9.length<=sizeLine) (Rs.ok x9))) λx30=>(Rs.bind (Rs.bind (Rs.ok a_0) λx28=>(Rs.bind (Rs.bind (Rs.bind (Rs.ok (3:Int)) λx24=>(Rs.bind (Rs.ok a_1) λx25=>(J2 x24 x25))) λx26=>(Rs.bind (Rs.ok (1:Int)) λx27=>(Rs.ok (x26+x27)))) λx29=>(atR x28 x29))) λx31=>(atR x30 x31))) λx33=>(Vj x32 x33))) λa1=>(Rs.bind (Rs.ok a1) λx44=>(Rs.bind (Rs.bind (Rs.bind (Rs.ok (2:Int)) λx40=>(Rs.bind (Rs.bind (Rs.ok a_0) λx38=>(Rs.bind (Rs.bind (Rs.bind (Rs.ok (3:Int)) λx34=>(Rs.bind (Rs.ok a_1) λx35=>(J2 x34 x35))) λx36=>(Rs.bind (Rs.ok (2:Int)) λx37=>(Rs.ok (x36+x37)))) λx39=>(atR x38 x39))) λx41=>(J2 x40 x41))) λx42=>(Rs.bind (Rs.ok (1:Int)) λx43=>(Rs.ok (x42-x43)))) λx45=>(J2 x44 x45))))
noncomputable def Qe (a_0:(List Int))(a_1:(List Int)):Rs ((List Mx)×Str×Bool):=(Rs.bind (Rs.bind (Rs.bind (Rs.bind (Rs.ok ("turn":Str)) λx14=>(Rs.bind (Rs.bind (Rs.ok ("curl":Str)) λx12=>(Rs.bind (Rs.bind (Rs.ok ("uncurl":Str)) λx10=>(Rs.bind (Rs.bind (Rs.ok ("lay":Str)) λx8=>(Rs.bind (Rs.bind (Rs.ok ("unlay":Str)) λx6=>(Rs.bind (Rs.bind (Rs.ok ("pass":Str)) λx4=>(Rs.bind (Rs.ok []) λx5=>(Rs.ok (x4::x5)))) λx7=>(Rs.ok (x6::x7)))) λx9=>(Rs.ok (x8::x9)))) λx11=>(Rs.ok (x10::x11)))) λx13=>(Rs.ok (x12::x13)))) λx15=>(Rs.ok (x14::x15)))) λx3=>(chk (x3.length<=sizeLine) (Rs.ok x3))) λx18=>(Rs.bind (Rs.bind (Rs.ok a_1) λx16=>(Rs.bind (Rs.ok (0:Int)) λx17=>(atR x16 x17))) λx19=>(atR x18 x19))) λa1=>(Rs.bind (Rs.bind (Rs.bind (Rs.bind (Rs.ok (2:Int)) λx33=>(Rs.bind (Rs.bind (Rs.ok (3:Int)) λx31=>(Rs.bind (Rs.bind (Rs.ok (2:Int)) λx29=>(Rs.bind (Rs.bind (Rs.ok (6:Int)) λx27=>(Rs.bind (Rs.bind (Rs.ok (4:Int)) λx25=>(Rs.bind (Rs.bind (Rs.ok (6:Int)) λx23=>(Rs.bind (Rs.ok []) λx24=>(Rs.ok (x23::x24)))) λx26=>(Rs.ok (x25::x26)))) λx28=>(Rs.ok (x27::x28)))) λx30=>(Rs.ok (x29::x30)))) λx32=>(Rs.ok (x31::x32)))) λx34=>(Rs.ok (x33::x34)))) λx22=>(chk (x22.length<=sizeLine) (Rs.ok x22))) λx37=>(Rs.bind (Rs.bind (Rs.ok a_1) λx35=>(Rs.bind (Rs.ok (0:Int)) λx36=>(atR x35 x36))) λx38=>(atR x37 x38))) λa20=>(Rs.bind (Rs.bind (Rs.bind (Rs.ok a20) λx42=>(G3 0 x42)) λx46=>(Uw x46 (λa44=>(Rs.bind (Rs.bind (Rs.ok a_0) λx48=>(Rs.bind (Rs.ok a44) λx49=>(noE (YA x48 x49)))) λx50=>(Rs.ok (Mx.i x50)))))) λa39=>(Rs.bind (Rs.bind (Rs.ok a39) λx57=>(Uw x57 (λa55=>(Rs.bind (Rs.bind (Rs.ok a55) mxI) λx59=>(chk (x59.natAbs.log2<1920) (Rs.ok (sI x59))))))) λa51=>(Rs.bind (Rs.bind (Rs.bind (Rs.ok a1) λx60=>(Rs.bind (Rs.ok ("curl":Str)) λx61=>(Rs.ok (decide (x60=x61))))) λx62=>(if x62=true then(Rs.bind (Rs.bind (Rs.bind (Rs.bind (Rs.bind (Rs.ok ("over":Str)) λx68=>(Rs.bind (Rs.bind (Rs.ok ("under":Str)) λx66=>(Rs.bind (Rs.ok []) λx67=>(Rs.ok (x66::x67)))) λx69=>(Rs.ok (x68::x69)))) λx65=>(chk (x65.length<=sizeLine) (Rs.ok x65))) λx72=>(Rs.bind (Rs.bind (Rs.ok a_1) λx70=>(Rs.bind (Rs.ok (1:Int)) λx71=>(atR x70 x71))) λx73=>(atR x72 x73))) λx74=>(Rs.ok (Mx.s x74))) λa75=>(chk (a39.length<sizeLine) ((λa77=>(Rs.bind (Rs.bind (Rs.bind (Rs.ok a77) λx79=>(Rs.bind (Rs.bind (Rs.ok (1:Int)) λx78=>(Rs.ok (-x78))) λx80=>(atR x79 x80))) mxS) λa81=>(chk (a51.length<sizeLine) ((λa83=>(Rs.ok (a77,a83))) (a51++[a81]))))) (a39++[a75])))) else(Rs.ok (a39,a51)))) λg85=>(Rs.bind (Rs.bind (Rs.bind (Rs.ok a1) λx86=>(Rs.bind (Rs.ok ("lay":Str)) λx87=>(Rs.ok (decide (x86=x87))))) λx88=>(if x88=true then(Rs.bind (Rs.bind (Rs.bind (Rs.bind (Rs.ok a_1) λx91=>(Rs.bind (Rs.ok (1:Int)) λx92=>(atR x91 x92))) λx93=>(Rs.bind (Rs.ok (0:Int)) λx94=>(Rs.ok (decide (x93=x94))))) λx95=>(Rs.ok (Mx.b x95))) λa96=>(chk (g85.1.length<sizeLine) ((λa98=>(Rs.bind (Rs.bind (Rs.bind (Rs.bind (Rs.ok ("crossed":Str)) λx102=>(Rs.bind (Rs.bind (Rs.ok ("plain":Str)) λx100=>(Rs.bind (Rs.ok []) λx101=>(Rs.ok (x100::x101)))) λx103=>(Rs.ok (x102::x103)))) λx99=>(chk (x99.length<=sizeLine) (Rs.ok x99))) λx106=>(Rs.bind (Rs.bind (Rs.ok a_1) λx104=>(Rs.bind (Rs.ok (1:Int)) λx105=>(atR x104 x105))) λx107=>(atR x106 x107))) λa108=>(chk (g85.2.length<sizeLine) ((λa110=>(Rs.ok (a98,a110))) (g85.2++[a108]))))) (g85.1++[a96])))) else(Rs.ok (g85.1,g85.2)))) λg112=>(Rs.bind (Rs.bind (Rs.bind (Rs.ok a1) λx116=>(Rs.bind (Rs.bind (Rs.bind (Rs.ok ("curl":Str)) λx113=>(Rs.bind (Rs.ok ("lay":Str)) λx114=>(Rs.ok (x113,x114)))) λx115=>(Rs.ok [x115.1,x115.2])) λx117=>(Rs.ok (decide (x116∈x117))))) λx118=>(if x118=true then(Rs.bind (Rs.bind (Rs.bind (Rs.ok (1:Int)) λx125=>(Rs.bind (Rs.bind (Rs.ok (2:Int)) λx123=>(Rs.bind (Rs.bind (Rs.ok a_1) λx121=>(Rs.bind (Rs.ok (2:Int)) λx122=>(atR x121 x122))) λx124=>(J2 x123 x124))) λx126=>(Rs.ok (x125-x126)))) λx127=>(Rs.ok (Mx.i x127))) λa128=>(chk (g112.1.length<sizeLine) ((λa130=>(Rs.bind (Rs.bind (Rs.bind (Rs.bind (Rs.ok ("+":Str)) λx134=>(Rs.bind (Rs.bind (Rs.ok ("-":Str)) λx132=>(Rs.bind (Rs.ok []) λx133=>(Rs.ok (x132::x133)))) λx135=>(Rs.ok (x134::x135)))) λx131=>(chk (x131.length<=sizeLine) (Rs.ok x131))) λx138=>(Rs.bind (Rs.bind (Rs.ok a_1) λx136=>(Rs.bind (Rs.ok (2:Int)) λx137=>(atR x136 x137))) λx139=>(atR x138 x139))) λa140=>(chk (g112.2.length<sizeLine) ((λa142=>(Rs.ok (a130,a142))) (g112.2++[a140]))))) (g112.1++[a128])))) else(Rs.ok (g112.1,g112.2)))) λg144=>(Rs.bind (Rs.bind (Rs.bind (Rs.ok a20) λx147=>(G3 0 x147)) λx151=>(CM x151 (λa149=>(Rs.bind (Rs.bind (Rs.bind (Rs.bind (Rs.ok g144.1) λx152=>(Rs.bind (Rs.ok a149) λx153=>(atR x152 x153))) mxI) λx154=>(Rs.ok (x154.natAbs:Int))) λx157=>(Rs.bind (Rs.bind (Rs.ok (10:Int)) λx155=>(Rs.bind (Rs.ok (18:Int)) λx156=>(Uu x155 x156))) λx158=>(Rs.ok (decide (x158<=x157)))))) (λa149=>(Rs.ok a149)))) λa145=>(Rs.bind (Rs.bind (Rs.ok (" ":Str)) λx161=>(Rs.bind (Rs.bind (Rs.bind (Rs.bind (Rs.ok a1) λx165=>(Rs.bind (Rs.ok []) λx166=>(Rs.ok (x165::x166)))) λx164=>(chk (x164.length<=sizeLine) (Rs.ok x164))) λx162=>(Rs.bind (Rs.ok g144.2) λx163=>(Ux x162 x163))) λx167=>(chk ((x167.map (·.length)).sum+x167.length*x161.length<=16777216) (Rs.ok (Txt.join x161 x167))))) λa159=>(Rs.bind (Rs.bind (Rs.bind (Rs.bind (Rs.bind (Rs.bind (Rs.ok a1) λx170=>(Rs.ok (Mx.s x170))) λx171=>(Rs.bind (Rs.ok []) λx172=>(Rs.ok (x171::x172)))) λx173=>(chk (x173.length<=sizeLine) (Rs.ok x173))) λx168=>(Rs.bind (Rs.ok g144.1) λx169=>(Ux x168 x169))) λx174=>(Rs.ok x174)) λx178=>(Rs.bind (Rs.ok a159) λx179=>(Rs.bind (Rs.bind (Rs.bind (Rs.ok a145) λx175=>(Rs.ok (x175.length:Int))) λx176=>(Rs.bind (Rs.ok (0:Int)) λx177=>(Rs.ok (decide (x177<x176))))) λx180=>(Rs.ok (x178,x179,x180))))))))))))))
noncomputable def ZE (a_0:(List Mx))(a_1:(List Mx)):Rs Bool:=(Rs.bind (orR (Rs.bind (Rs.bind (Rs.ok a_0) λx1=>(Rs.ok true)) λx2=>(Rs.ok (!x2))) (Rs.bind (Rs.bind (Rs.ok a_0) λx3=>(Rs.ok (x3.length:Int))) λx5=>(Rs.bind (Rs.bind (Rs.ok a_1) λx4=>(Rs.ok (x4.length:Int))) λx6=>(Rs.ok (!(decide (x5=x6))))))) λx7=>(if x7=true then(Rs.ok false) else(Rs.bind (Rs.bind (Rs.bind (Rs.ok a_1) λx8=>(Rs.ok (x8.length:Int))) λx9=>(G3 0 x9)) λx41=>(Rs.bind (forC x41 () (λg12 a14=>(Rs.bind (Rs.bind (Rs.bind (Rs.bind (Rs.ok a_1) λx16=>(Rs.bind (Rs.ok a14) λx17=>(atR x16 x17))) λx18=>(Rs.ok (U1 false false true x18))) λx22=>(Rs.bind (Rs.bind (Rs.bind (Rs.ok a_0) λx19=>(Rs.bind (Rs.ok a14) λx20=>(atR x19 x20))) λx21=>(Rs.ok (U1 false false true x21))) λx23=>(Rs.ok (!(decide (x22=x23)))))) λx24=>(if x24=true then(Rs.bind (Rs.ok false) λx36=>(Rs.ok (Ctl.ret x36))) else(Rs.bind (Rs.bind (Rs.bind (Rs.bind (Rs.ok a_1) λx25=>(Rs.bind (Rs.ok a14) λx26=>(atR x25 x26))) λx27=>(Rs.ok (U1 false true false x27))) λx31=>(Rs.bind (Rs.bind (Rs.bind (Rs.ok a_0) λx28=>(Rs.bind (Rs.ok a14) λx29=>(atR x28 x29))) λx30=>(Rs.ok (U1 false true false x30))) λx32=>(Rs.ok (!(decide (x31=x32)))))) λx33=>(if x33=true then(Rs.bind (Rs.ok false) λx35=>(Rs.ok (Ctl.ret x35))) else(Rs.bind (Rs.ok ()) λx34=>(Rs.ok (Ctl.nx x34))))))))) (Vi λg37=>(Rs.bind (Rs.ok a_0) λx39=>(Rs.bind (Rs.ok a_1) λx40=>(chk (x39.map Mx.kd=x40.map Mx.kd) (Rs.ok (decide (x39=x40)))))))))))
noncomputable def Y3 (a_0:((List Mx)×Str×Bool)):Rs Bool:=(Rs.bind (Rs.ok a_0) λa1=>(Rs.bind (Rs.bind (Rs.ok a1.1) λx8=>(noE (Yb x8))) λa5=>(Rs.bind (orR (Rs.bind (Rs.bind (Rs.ok a5) λx9=>(Rs.ok true)) λx10=>(Rs.ok (!x10))) (Rs.bind (Rs.ok a5) λx11=>(Rs.bind (Rs.ok a1.2.1) λx12=>(Rs.ok (!(decide (x11=x12))))))) λx13=>(if x13=true then(Rs.ok false) else(Rs.bind (Rs.bind (Rs.ok a1.2.1) λx17=>(noE (QO x17))) λa14=>(Rs.bind (Rs.ok a1.2.2) λx18=>(if x18=true then(Rs.bind (Rs.ok a14) λx21=>(Rs.bind (Rs.bind (Rs.ok ("no":Str)) λx19=>(Rs.bind (Rs.ok true) λx20=>(Rs.ok (x19,x20)))) λx22=>(Rs.ok (eqL x21 x22)))) else(Bh (Rs.bind (Rs.bind (Rs.ok a14) λx23=>(Rs.ok (CL x23))) λx24=>(Rs.bind (Rs.ok ("yes":Str)) λx25=>(Rs.ok (decide (x24=x25))))) (Rs.bind (Rs.bind (Rs.bind (Rs.ok a14) getR) λx27=>(Rs.ok x27.2)) λx28=>(Rs.bind (Rs.ok a1.1) λx29=>(noE (ZE x28 x29))))))))))))
noncomputable def Vd (a_0:(List Int)):Rs Bool:=(Rs.bind (Rs.bind (Rs.ok a_0) λx20=>(Rs.bind (Rs.ok (0:Int)) λx21=>(Rs.bind (Rs.bind (Rs.bind (Rs.bind (Rs.ok (1:Int)) λx7=>(Rs.bind (Rs.ok []) λx8=>(Rs.ok (x7::x8)))) λx6=>(chk (x6.length<=sizeLine) (Rs.ok x6))) λx4=>(Rs.bind (Rs.bind (Rs.bind (Rs.bind (Rs.ok (4:Int)) λx18=>(Rs.bind (Rs.bind (Rs.ok (2:Int)) λx16=>(Rs.bind (Rs.bind (Rs.bind (Rs.ok (10:Int)) λx12=>(Rs.bind (Rs.ok (59:Int)) λx13=>(Uu x12 x13))) λx14=>(Rs.bind (Rs.ok []) λx15=>(Rs.ok (x14::x15)))) λx17=>(Rs.ok (x16::x17)))) λx19=>(Rs.ok (x18::x19)))) λx11=>(chk (x11.length<=sizeLine) (Rs.ok x11))) λx9=>(Rs.bind (Rs.ok (6:Int)) λx10=>(Bp x9 x10))) λx5=>(Ux x4 x5))) λx22=>(noE (Qo x20 x21 x22))))) λa1=>(Rs.bind (Rs.bind (Rs.ok a_0) λx42=>(Rs.bind (Rs.ok (1:Int)) λx43=>(Rs.bind (Rs.bind (Rs.bind (Rs.bind (Rs.ok (1:Int)) λx29=>(Rs.bind (Rs.ok []) λx30=>(Rs.ok (x29::x30)))) λx28=>(chk (x28.length<=sizeLine) (Rs.ok x28))) λx26=>(Rs.bind (Rs.bind (Rs.bind (Rs.bind (Rs.ok (4:Int)) λx40=>(Rs.bind (Rs.bind (Rs.ok (2:Int)) λx38=>(Rs.bind (Rs.bind (Rs.bind (Rs.ok (10:Int)) λx34=>(Rs.bind (Rs.ok (59:Int)) λx35=>(Uu x34 x35))) λx36=>(Rs.bind (Rs.ok []) λx37=>(Rs.ok (x36::x37)))) λx39=>(Rs.ok (x38::x39)))) λx41=>(Rs.ok (x40::x41)))) λx33=>(chk (x33.length<=sizeLine) (Rs.ok x33))) λx31=>(Rs.bind (Rs.ok (6:Int)) λx32=>(Bp x31 x32))) λx27=>(Ux x26 x27))) λx44=>(noE (Qo x42 x43 x44))))) λa23=>(Rs.bind (Rs.bind (Rs.ok a_0) λx55=>(Rs.bind (Rs.ok (2:Int)) λx56=>(Rs.bind (Rs.bind (Rs.bind (Rs.ok (6:Int)) λx53=>(Rs.bind (Rs.bind (Rs.ok (2:Int)) λx51=>(Rs.bind (Rs.bind (Rs.ok (2:Int)) λx49=>(Rs.bind (Rs.ok []) λx50=>(Rs.ok (x49::x50)))) λx52=>(Rs.ok (x51::x52)))) λx54=>(Rs.ok (x53::x54)))) λx48=>(chk (x48.length<=sizeLine) (Rs.ok x48))) λx57=>(noE (Qo x55 x56 x57))))) λa45=>(Rs.bind (Rs.bind (Rs.ok a_0) λx68=>(Rs.bind (Rs.ok (3:Int)) λx69=>(Rs.bind (Rs.bind (Rs.bind (Rs.ok (6:Int)) λx66=>(Rs.bind (Rs.bind (Rs.ok (2:Int)) λx64=>(Rs.bind (Rs.bind (Rs.ok (2:Int)) λx62=>(Rs.bind (Rs.ok []) λx63=>(Rs.ok (x62::x63)))) λx65=>(Rs.ok (x64::x65)))) λx67=>(Rs.ok (x66::x67)))) λx61=>(chk (x61.length<=sizeLine) (Rs.ok x61))) λx70=>(noE (Qo x68 x69 x70))))) λa58=>(Rs.bind (Rs.bind (Rs.ok a1) λx74=>(Rs.bind (Rs.ok a45) λx75=>(noE (Qe x74 x75)))) λa71=>(Rs.bind (Rs.bind (Rs.ok a23) λx79=>(Rs.bind (Rs.ok a58) λx80=>(noE (Qe x79 x80)))) λa76=>(Rs.bind (orR (Rs.bind (Rs.bind (Rs.ok a71) λx82=>(noE (Y3 x82))) λx83=>(Rs.ok (!x83))) (Rs.bind (Rs.bind (Rs.ok a76) λx85=>(noE (Y3 x85))) λx86=>(Rs.ok (!x86)))) λx87=>(if x87=true then(Rs.ok false) else(Rs.bind (Rs.ok a71) λx89=>(noE (Y3 x89)))))))))))
end My
namespace L2
open PySem
section
variable {α β γ ρ:Type}
theorem Rs.okb (a:α)(f:α->Rs β):(Rs.ok a).bind f=f a:=(Eq.refl (f a)).symm.symm
theorem U8 {f:α->Rs β}{h:α->β}:∀{as:List α},(∀a∈as,f a= .ok (h a))->Js as f= .ok (as.map h)
 | [],_=>rfl
 |a::as,hf=>by
  show(f a).bind _=_
  rw[hf a (by simp),Rs.ok_bind,U8 λb hb=>hf b (by simp[hb])];rfl
theorem K1 {f:α->Rs β}{h:α->β}{as:List α}(hl:as.length<=sizeLine)(hf:∀a∈as,f a= .ok (h a)):Uw as f= .ok (as.map h):=by
 unfold Uw;rw[Xl hl];exact U8 hf
theorem UH {c:α->Rs Bool}{f:α->Rs β}{p:α->Bool}{h:α->β}:∀{as:List α},(∀a∈as,c a= .ok (p a))->(∀a∈as,p a=true->f a= .ok (h a))->V2 as c f= .ok ((as.filter p).map h)
 | [],_,_=>rfl
 |a::as,hc,hf=>by
  show(c a).bind _=_
  rw[hc a (by simp),Rs.ok_bind]
  have ih:=UH (as:=as) (λb hb=>hc b (by simp[hb])) λb hb=>hf b (by simp[hb])
  cases hp:p a with
  |false=>rw[if_neg (by simp),ih,List.filter_cons,hp];rfl
  |true=>rw[if_pos rfl,hf a (by simp) hp,Rs.ok_bind,ih,List.filter_cons,hp];rfl
theorem DG {c:α->Rs Bool}{f:α->Rs β}{p:α->Bool}{h:α->β}{as:List α}(hl:as.length<=sizeLine)(hc:∀a∈as,c a= .ok (p a))(hf:∀a∈as,p a=true->f a= .ok (h a)):CM as c f= .ok ((as.filter p).map h):=by
 unfold CM;rw[Xl hl];exact UH hc hf
theorem Jv {f:γ->α->Rs γ}(P:Nat->γ->Prop):∀(as:List α) (k:Nat) (g:γ),P k g->(∀i a g,as[i]?=some a->P (k+i) g->∃g',f g a= .ok g'/\P (k+i+1) g')->∃g',forN as g f= .ok g'/\P (k+as.length) g'
 | [],k,g,h0,_=>⟨g,rfl,h0⟩
 |a::as,k,g,h0,hs=>by
  obtain⟨g1,e1,p1⟩:=hs 0 a g rfl h0
  obtain⟨g2,e2,p2⟩:=Jv P as (k+1) g1 p1 λi b g hb hp=>by
   obtain⟨g',e',p'⟩:=hs (i+1) b g (by simpa using hb) (by rw[show k+(i+1)=k+1+i by omega];exact hp)
   exact⟨g',e',by rw[show k+1+i+1=k+(i+1)+1 by omega];exact p'⟩
  refine⟨g2,?_,by rw[List.length_cons,show k+(as.length+1)=k+1+as.length by omega];exact p2⟩
  show(f g a).bind _=_
  rw[e1,Rs.ok_bind];exact e2
theorem Uc {f:γ->α->Rs γ}(P:Nat->γ->Prop){as:List α}{g:γ}(h0:P 0 g)(hs:∀i a g,as[i]?=some a->P i g->∃g',f g a= .ok g'/\P (i+1) g'):∃g',forN as g f= .ok g'/\P as.length g':=by
 have:=Jv P as 0 g h0 (by simpa using hs)
 simpa using this
theorem VR {f:γ->α->Rs (Ctl ρ γ)}:∀{as:List α}{g:γ},(∀a∈as,f g a= .ok (.nx g))->forC as g f= .ok (.nx g)
 | [],_,_=>rfl
 |a::as,g,hf=>by
  show(f g a).bind _=_
  rw[hf a (by simp),Rs.ok_bind]
  exact VR λb hb=>hf b (by simp[hb])
theorem J0 {f:γ->α->Rs (Ctl ρ γ)}(P:Nat->γ->Prop):∀(as:List α) (k:Nat) (g:γ),P k g->(∀i a g,as[i]?=some a->P (k+i) g->∃g',f g a= .ok (.nx g')/\P (k+i+1) g')->∃g',forC as g f= .ok (.nx g')/\P (k+as.length) g'
 | [],k,g,h0,_=>⟨g,rfl,h0⟩
 |a::as,k,g,h0,hs=>by
  obtain⟨g1,e1,p1⟩:=hs 0 a g rfl h0
  obtain⟨g2,e2,p2⟩:=J0 P as (k+1) g1 p1 λi b g hb hp=>by
   obtain⟨g',e',p'⟩:=hs (i+1) b g (by simpa using hb) (by rw[show k+(i+1)=k+1+i by omega];exact hp)
   exact⟨g',e',by rw[show k+1+i+1=k+(i+1)+1 by omega];exact p'⟩
  refine⟨g2,?_,by rw[List.length_cons,show k+(as.length+1)=k+1+as.length by omega];exact p2⟩
  show(f g a).bind _=_
  rw[e1,Rs.ok_bind];exact e2
theorem GE {f:γ->α->Rs (Ctl ρ γ)}(P:Nat->γ->Prop){as:List α}{g:γ}(h0:P 0 g)(hs:∀i a g,as[i]?=some a->P i g->∃g',f g a= .ok (.nx g')/\P (i+1) g'):∃g',forC as g f= .ok (.nx g')/\P as.length g':=by
 have:=J0 P as 0 g h0 (by simpa using hs)
 simpa using this
theorem Y0 {a b:Int}(h:0<b):Vj a b= .ok (a % b):=Xl h
theorem ZF {a b:Int}(h1: -(2^64)<a)(h2:a<2^64):J2 a b= .ok (a*b):=Xl (.inl ⟨h1,h2⟩)
theorem Jm {a b:Int}(h1: -(2^64)<b)(h2:b<2^64):J2 a b= .ok (a*b):=Xl (.inr ⟨h1,h2⟩)
theorem Fe {a b:Int}(h:0<b)(h2:b<2^250):Bd a b= .ok (a/b):=Xl ⟨h,by
 have h3:b.natAbs<2^250:=by omega
 rcases Nat.eq_zero_or_pos b.natAbs with h0 |h0
 ·omega
 ·have:=(Nat.log2_lt (by omega)).mpr h3
  omega⟩
theorem Z1 {a b:Int}(h0:0<=b)(h1:b<=1000000)(h2: -(2^64)<a)(h3:a<2^64):Uu a b= .ok (a^b.toNat):=Xl ⟨h0,h1,by omega⟩
theorem XM {as:List α}{i:Nat}{a:α}(h:as[i]?=some a):atR as (i:Int)= .ok a:=by
 have hlt:=(List.getElem?_eq_some_iff.mp h).1
 unfold atR atI ixN
 rw[if_pos (by omega),if_pos (by omega)]
 simp[h]
theorem Zb {as:List α}{i:Int}{a:α}(h0:0<=i)(h:as[i.toNat]?=some a):atR as i= .ok a:=by
 have:i=(i.toNat:Int):=by omega
 rw[this];exact XM h
theorem Yq {n:Nat}(h:n<2^62):G3 0 (n:Int)= .ok ((List.range n).map λ(i:Nat)=>(i:Int)):=by
 unfold G3
 rw[Xl (by omega)]
 unfold QG
 congr 1
 rw[Int.sub_zero,Int.toNat_natCast]
 exact List.map_congr_left λi _=>by omega
theorem U4 {n i:Nat}{a:Int}(h:((List.range n).map λ(i:Nat)=>(i:Int))[i]?=some a):a=(i:Int)/\i<n:=by
 have hlt:=(List.getElem?_eq_some_iff.mp h).1
 simp only[List.length_map,List.length_range] at hlt
 rw[List.getElem?_map,List.getElem?_range hlt] at h
 exact⟨(Option.some.inj h).symm,hlt⟩
theorem Zp {n:Nat}{a:Int}(h:a∈(List.range n).map λ(i:Nat)=>(i:Int)):∃i:Nat,i<n/\a=(i:Int):=by
 obtain⟨i,hi,rfl⟩:=List.mem_map.mp h
 exact⟨i,List.mem_range.mp hi,rfl⟩
theorem Kp {n:Nat}:((List.range n).map λ(i:Nat)=>(i:Int)).length=n:=by simp
theorem DU {a:Bool}{b:Rs Bool}{c:Bool}(h:a=true->b= .ok c):Bh (.ok a) b= .ok (a&&c):=by
 cases a with
 |false=>rfl
 |true=>
  show(if true=true then b else Rs.ok false)=_
  rw[if_pos rfl,h rfl];rfl
theorem GL {a:Bool}{b:Rs Bool}{c:Bool}(h:a=false->b= .ok c):orR (.ok a) b= .ok (a || c):=by
 cases a with
 |true=>rfl
 |false=>
  show(if false=true then Rs.ok true else b)=_
  rw[if_neg Bool.false_ne_true,h rfl];rfl
theorem sz {n:Nat}(h:n<=100000):n<=sizeLine:=Nat.le_trans h (by decide)
theorem K7 {n:Nat}(h:n<=100000):n<sizeLine:=Nat.lt_of_le_of_lt h (by decide)
noncomputable def Ok (m:Rs β)(R:β->Prop):Prop:=∃ r,m= .ok r/\R r
theorem Ok.pure {R:β->Prop}{a:β}(h:R a):Ok (.ok a) R:=⟨a,rfl,h⟩
theorem Ok.bind {m:Rs α}{f:α->Rs β}{R:α->Prop}{T:β->Prop}(h:Ok m R)(hf:∀a,R a->Ok (f a) T):Ok (m.bind f) T:=by
 obtain⟨a,e,ha⟩:=h
 rw[e];exact hf a ha
theorem Ok.imp {m:Rs α}{R T:α->Prop}(h:Ok m R)(hf:∀a,R a->T a):Ok m T:=by
 obtain⟨a,e,ha⟩:=h
 exact⟨a,e,hf a ha⟩
theorem Ok.noE {m:Rs α}{R:α->Prop}(h:Ok m R):Ok (noE m) R:=by
 obtain⟨a,e,ha⟩:=h
 rw[e];exact⟨a,rfl,ha⟩
theorem Ok.chk {c:Prop}[Decidable c]{m:Rs α}{R:α->Prop}(hc:c)(h:Ok m R):Ok (chk c m) R:=by rw[Xl hc];exact h
theorem Ok.forN {f:γ->α->Rs γ}(P:Nat->γ->Prop){as:List α}{g:γ}(h0:P 0 g)(hs:∀i a g,as[i]?=some a->P i g->Ok (f g a) (P (i+1))):Ok (forN as g f) (P as.length):=Uc P h0 hs
theorem Ok.forC {f:γ->α->Rs (Ctl ρ γ)}(P:Nat->γ->Prop){as:List α}{g:γ}(h0:P 0 g)(hs:∀i a g,as[i]?=some a->P i g->∃g',f g a= .ok (.nx g')/\P (i+1) g'):Ok (forC as g f) (λc=>∃ g',c= .nx g'/\P as.length g'):=by
 obtain⟨g',e,h⟩:=GE P h0 hs
 exact⟨_,e,g',rfl,h⟩
theorem K9 {f:γ->Rs ρ}(g:γ):Vi f (.nx g)=f g:=(Eq.refl (f g)).symm.symm
theorem YZ (a:α):noE (Rs.ok a)= .ok a:=(Eq.refl (Rs.ok a)).symm.symm
theorem Ok.of {m:Rs α}{a:α}(h:m= .ok a):Ok m (λb=>b=a):=⟨a,h,rfl⟩
theorem Ok.eq {m:Rs α}{a:α}(h:Ok m (λb=>b=a)):m= .ok a:=by
 obtain⟨b,e,rfl⟩:=h
 exact e
end
end L2
namespace My
open PySem L2
theorem U9 (ns:List Int){p:Int}(hp:0<=p):∃c,Qa ns p= .ok c:=by
 unfold Qa
 simp only[Rs.okb]
 by_cases h:p<(ns.length:Int)
 ·rw[decide_eq_true h,if_pos rfl]
  have hl:p.toNat<ns.length:=by omega
  exact⟨ns[p.toNat],Zb hp (by simp[hl])⟩
 ·rw[decide_eq_false h,if_neg Bool.false_ne_true]
  obtain⟨g,e,_⟩:=Uc (as:=JV ns none (some 63)) (g:=(5:Int)) (f:=λg15 a17=>(Rs.bind (Rs.bind (Rs.bind (Rs.bind (J2 g15 48271) λx25=>(Rs.bind (Vj a17 1000003) λx26=>(Rs.ok (x25+x26)))) λx27=>Rs.ok (x27+1)) λx29=>Vj x29 2147483647) λa19=>(Rs.ok (a19)))) (λ_ _=>True) True.intro λi a g _ _=>by
   rw[Jm (by decide) (by decide),Rs.ok_bind,Y0 (by decide),Rs.ok_bind,Rs.ok_bind,Rs.ok_bind,Y0 (by decide),Rs.ok_bind]
   exact⟨_,rfl,True.intro⟩
  rw[e,Rs.ok_bind,ZF (by decide) (by decide),Rs.ok_bind,Rs.ok_bind,Y0 (by decide)]
  exact⟨_,rfl⟩
theorem Ft (c:Int){k:Int}(h0:0<=k)(h1:k<=100000):∃y,Vp c k= .ok y/\0<=y:=by
 unfold Vp
 simp only[Rs.okb]
 have hm:0<=c % 2147483629/\c % 2147483629<2147483629:=⟨Int.emod_nonneg _ (by decide),Int.emod_lt_of_pos _ (by decide)⟩
 rw[Y0 (by decide),Rs.ok_bind,ZF (by decide) (by decide),Rs.ok_bind,Rs.ok_bind,Rs.ok_bind,Z1 (by decide) (by decide) (by omega) (by omega),Rs.ok_bind,Y0 (by decide),Rs.ok_bind]
 rw[Jm (by decide) (by decide),Rs.ok_bind,ZF (by decide) (by decide),Rs.ok_bind,Jm (by omega) (by omega),Rs.ok_bind,Rs.ok_bind,Rs.ok_bind,Y0 (by decide),Rs.ok_bind,Fe (by decide) (by decide)]
 exact⟨_,rfl,Int.ediv_nonneg (Int.emod_nonneg _ (by decide)) (by decide)⟩
theorem Fi (ns:List Int){p:Int}(hp:0<=p)(sizes:List Int)(hl:sizes.length<=100000)(hs:∀x∈sizes,0<x/\x<2^250):
  Ok (Qo ns p sizes) λr=>r.length=sizes.length/\∀(i:Nat) x s,r[i]?=some x->sizes[i]?=some s->0<=x/\x<s:=by
 obtain⟨c,ec⟩:=U9 ns hp
 unfold Qo
 simp only[Rs.okb]
 rw[ec,show noE (Rs.ok c)= .ok c from rfl,Rs.ok_bind,Yq (by omega),Rs.ok_bind,Z1 (by decide) (by decide) (by decide) (by decide)]
 simp only[Rs.okb]
 have key:∀(i:Nat) (a:Int) (g:List Int×Int),((List.range sizes.length).map λ(i:Nat)=>(i:Int))[i]?=some a->(g.1.length=i/\∀(j:Nat) x s,g.1[j]?=some x->sizes[j]?=some s->0<=x/\x<s)->∀y z:Int,∀s,sizes[i]?=some s->0<=y/\y<s->((g.1++[y],z).1.length=i+1/\∀(j:Nat) x s,(g.1++[y],z).1[j]?=some x->sizes[j]?=some s->0<=x/\x<s):=by
  intro i a g ha ⟨hg,hq⟩ y z s hs1 hy
  refine⟨by simp[hg],λj x s' hx hs'=>?_⟩
  have hx:(g.1++[y])[j]?=some x:=hx
  rcases Nat.lt_trichotomy j i with hj |hj |hj
  ·rw[List.getElem?_append_left (by omega)] at hx;exact hq j x s' hx hs'
  ·subst hj
   rw[List.getElem?_append_right (by omega),hg,Nat.sub_self] at hx
   have:y=x:=by simpa using hx
   rw[hs1] at hs'
   cases hs'
   rw[←this];exact hy
  ·rw[List.getElem?_eq_none (by simp;omega)] at hx;cases hx
 refine Ok.bind (Ok.forN (λi (g:List Int×Int)=>g.1.length=i/\∀(j:Nat) x s,g.1[j]?=some x->sizes[j]?=some s->0<=x/\x<s) ⟨rfl,λj x s h _=>by simp at h⟩ λi a g ha hg=>?_) (T:=λ(r:List Int)=>r.length=sizes.length/\∀(i:Nat) x s,r[i]?=some x->sizes[i]?=some s->0<=x/\x<s) λg ⟨hg,hq⟩=>?_
 ·obtain⟨rfl,hi⟩:=U4 ha
  have hsz:sizes[i]?=some sizes[i]:=by simp[hi]
  have hsp:=hs _ (List.getElem_mem hi)
  have hgl:g.1.length<sizeLine:=K7 (by have:=hg.1;omega)
  by_cases hc:c<10^(18:Int).toNat
  ·rw[decide_eq_true hc,if_pos rfl]
   obtain⟨y,ey,hy⟩:=Ft c (k:=(i:Int)) (by omega) (by omega)
   rw[ey,show noE (Rs.ok y)= .ok y from rfl,Rs.ok_bind,XM hsz,Rs.ok_bind,Y0 hsp.1,Rs.ok_bind,Xl hgl]
   exact⟨_,rfl,key i _ g ha hg _ _ _ hsz ⟨Int.emod_nonneg _ (by omega),Int.emod_lt_of_pos _ hsp.1⟩⟩
  ·rw[decide_eq_false hc,if_neg Bool.false_ne_true]
   by_cases hq:0<g.2
   ·rw[decide_eq_true hq,if_pos rfl,XM hsz,Rs.ok_bind,Y0 hsp.1,Rs.ok_bind,Xl hgl]
    simp only[Rs.okb]
    rw[Fe hsp.1 hsp.2]
    exact⟨_,rfl,key i _ g ha hg _ _ _ hsz ⟨Int.emod_nonneg _ (by omega),Int.emod_lt_of_pos _ hsp.1⟩⟩
   ·rw[decide_eq_false hq,if_neg Bool.false_ne_true,Y0 (by decide),Rs.ok_bind]
    obtain⟨c2,ec2⟩:=U9 ns (p:=(p+1+(i:Int)) % 63) (Int.emod_nonneg _ (by decide))
    obtain⟨y,ey,hy⟩:=Ft c2 (k:=(i:Int)) (by omega) (by omega)
    rw[ec2,show noE (Rs.ok c2)= .ok c2 from rfl,Rs.ok_bind,ey,show noE (Rs.ok y)= .ok y from rfl,Rs.ok_bind,XM hsz,Rs.ok_bind,Y0 hsp.1,Rs.ok_bind,Xl hgl]
    exact⟨_,rfl,key i _ g ha hg _ _ _ hsz ⟨Int.emod_nonneg _ (by omega),Int.emod_lt_of_pos _ hsp.1⟩⟩
 ·rw[Kp] at hg
  exact⟨g.1,rfl,hg,hq⟩
noncomputable def spB:List Nat->List (List Nat)
 | []=>[[]]
 |c::r=>if c=32 then[]::spB r else match spB r with
  |h::t=>(c::h)::t
  | []=>[[c]]
noncomputable def UM (p:List Nat):List (List Nat)->List (List Nat)
 | []=>[p]
 |h::t=>(p++h)::t
noncomputable def Ur:List Nat->Nat->List Nat
 | [],_=>[]
 |c::r,k=>if c=32 then k::Ur r (k+1) else Ur r (k+1)
theorem JH:∀l,spB l≠ []
 | []=>by simp[spB]
 |c::r=>by
  unfold spB
  split
  ·simp
  ·split<;> simp
theorem Jh {l:List (List Nat)}(h:l≠ []):UM [] l=l:=by
 cases l with
 |nil=>exact absurd rfl h
 |cons a t=>rfl
theorem UW (c:Nat)(p:List Nat)(r:List Nat)(h:c≠32):UM (p++[c]) (spB r)=UM p (spB (c::r)):=by
 rw[spB,if_neg h]
 cases e:spB r with
 |nil=>exact absurd e (JH r)
 |cons a t=>simp[UM]
theorem Z6 (l:List Nat):∀(r:List Nat) (k st:Nat),l.drop k=r->st<=k->k<=l.length->(((st::(Ur r k).map (· +1)).zip (Ur r k++[l.length])).map λp=>(l.drop p.1).take (p.2-p.1))=UM ((l.drop st).take (k-st)) (spB r)
 | [],k,st,e,hs,hk=>by
  have:l.length<=k:=List.drop_eq_nil_iff.mp e
  have e2:k=l.length:=by omega
  simp[Ur,spB,UM,e2]
 |c::r,k,st,e,hs,hk=>by
  have hlt:k<l.length:=by
   rcases Nat.lt_or_ge k l.length with h |h
   ·exact h
   ·rw[List.drop_eq_nil_iff.mpr h] at e;cases e
  have e1:l.drop (k+1)=r:=by rw[←List.drop_drop,e];rfl
  have hc:l[k]?=some c:=by
   have:=congrArg (·[0]?) e
   simpa[List.getElem?_drop] using this
  by_cases h:c=32
  ·subst h
   have ih:=Z6 l r (k+1) (k+1) e1 (Nat.le_refl _) hlt
   rw[Ur,if_pos rfl,spB,if_pos rfl]
   rw[Nat.sub_self,List.take_zero,Jh (JH r)] at ih
   simp only[List.map_cons,List.cons_append,List.zip_cons_cons,UM,List.append_nil]
   rw[ih]
  ·have ih:=Z6 l r (k+1) st e1 (by omega) hlt
   rw[Ur,if_neg h,ih, ←UW c _ r h]
   congr 1
   rw[show k+1-st=(k-st)+1 by omega,List.take_add_one]
   congr 1
   rw[List.getElem?_drop,show st+(k-st)=k by omega,hc]
   rfl
theorem Kh (x:Str):∀(r:List Nat) (k:Nat) (st:Array Nat) (fr:Nat),x.cps.toList.drop k=r->k<=x.length->st.size<=k->fr<=k->
  (forIn (List.range' k (x.length+1-k)) (st,fr) (StrLaws.occBody x (" ":Str) x.length (x.length+1))).run.fst.toList=st.toList++Ur r k
 | [],k,st,fr,e,hk,h1,h2=>by
  have hl:x.cps.toList.length=x.length:=Array.length_toList
  have:x.cps.toList.length<=k:=List.drop_eq_nil_iff.mp e
  have e2:k=x.length:=by omega
  subst e2
  rw[show x.length+1-x.length=0+1 by omega,List.range'_succ,List.range'_zero,List.forIn_cons]
  unfold StrLaws.occBody
  rw[if_neg (λz=>by have:=z.1.2;have e:(" ":Str).length=1:=rfl;omega)]
  simp[Ur]
 |c::r,k,st,fr,e,hk,h1,h2=>by
  have hl:x.cps.toList.length=x.length:=Array.length_toList
  have hlt:k<x.length:=by
   rcases Nat.lt_or_ge k x.cps.toList.length with h |h
   ·omega
   ·rw[List.drop_eq_nil_iff.mpr h] at e;cases e
  have e1:x.cps.toList.drop (k+1)=r:=by rw[←List.drop_drop,e];rfl
  have sa:Builtin.Str.subAt x (" ":Str) k=(c==32):=by
   rw[StrLaws.subAt_eq,e]
   show([c]== [32])=(c==32)
   simp
  rw[show x.length+1-k=(x.length+1-(k+1))+1 by omega,List.range'_succ,List.forIn_cons]
  unfold StrLaws.occBody
  have l1:(" ":Str).length=1:=rfl
  by_cases h:c=32
  ·subst h
   rw[if_pos ⟨⟨⟨by show st.size<_;omega,h2⟩,by omega⟩,by rw[sa];rfl⟩]
   have ih:=Kh x r (k+1) (st.push k) (k+(" ":Str).length) e1 hlt (by simp;omega) (by omega)
   rw[Ur,if_pos rfl]
   unfold StrLaws.occBody at ih
   refine(Eq.trans ?_ ih).trans (by simp)
   rfl
  ·rw[if_neg (λz=>by rw[sa] at z;exact h (by simpa using z.2))]
   have ih:=Kh x r (k+1) st fr e1 hlt (by omega) (by omega)
   rw[Ur,if_neg h]
   unfold StrLaws.occBody at ih
   exact ih
theorem U5 (x:Str):Builtin.Str.occurrences x (" ":Str) 0 x.length (x.length+1)=Ur x.cps.toList 0:=by
 rw[StrLaws.occ_eq]
 have:=Kh x x.cps.toList 0 #[] 0 rfl (Nat.zero_le _) (Nat.zero_le _) (Nat.zero_le _)
 simpa using this
noncomputable def lsS (w:Str):List Nat:=w.cps.toList
theorem KJ {a b:Str}(h:lsS a=lsS b):a=b:=Str.ext' (Array.toList_inj.mp h)
theorem UV (x:Str):(Txt.split x (" ":Str)).map lsS=spB (lsS x):=by
 have hl:(lsS x).length=x.length:=Array.length_toList
 have key:=Z6 (lsS x) (lsS x) 0 0 rfl (Nat.le_refl _) (Nat.zero_le _)
 rw[Nat.sub_self,List.take_zero,Jh (JH _)] at key
 have l1:(" ":Str).length=1:=rfl
 unfold Txt.split
 split
 ·rename_i h
  have h0:x.length=0:=by
   have hk:Builtin.Str.strKind (" ":Str)=1:=by decide+kernel
   have hk2:1<=Builtin.Str.strKind x:=by unfold Builtin.Str.strKind;split;omega;split<;> omega
   rw[hk,l1] at h
   simp only[Bool.or_eq_true,decide_eq_true_eq] at h
   omega
  have e:lsS x=[]:=List.length_eq_zero_iff.mp (hl.trans h0)
  simp[e,spB]
 ·split
  ·rename_i h
   rw[U5] at h
   have e:Ur (lsS x) 0=[]:=by simpa[lsS] using h
   rw[e] at key
   simp at key
   rw[←key]
   simp
  ·rw[U5,l1, ←key]
   unfold Builtin.Str.partsBetween
   simp only[List.map_map]
   rw[hl]
   refine List.map_congr_left λp _=>?_
   exact StrLaws.strSub_toList x p.1 p.2
noncomputable def jnB (s:List Nat):List (List Nat)->List Nat
 | []=>[]
 | [w]=>w
 |w::v::r=>w++s++jnB s (v::r)
theorem QY (s:Str):∀ws:List Str,lsS (Txt.join s ws)=jnB (lsS s) (ws.map lsS):=λws=>by
 unfold Txt.join
 rw[StrLaws.glued_eq_join]
 induction ws with
 |nil=>rfl
 |cons w r ih=>
  cases r with
  |nil=>rfl
  |cons v r=>
   show lsS (w++s++Str.join s (v::r))=lsS w++lsS s++jnB (lsS s) (lsS v::r.map lsS)
   rw[show jnB (lsS s) (lsS v::r.map lsS)=jnB (lsS s) ((v::r).map lsS) from rfl, ←ih]
   unfold lsS
   rw[Str.cps_append,Str.cps_append]
   simp
theorem KO {w:List Nat}(r:List Nat)(h:32∉w):spB (w++r)=UM w (spB r):=by
 induction w with
 |nil=>rw[Jh (JH r)];rfl
 |cons c w ih=>
  have hc:c≠32:=λe=>h (by simp[e])
  have ih:=ih λz=>h (List.mem_cons_of_mem _ z)
  show spB (c::(w++r))=_
  rw[spB,if_neg hc,ih]
  cases e:spB r with
  |nil=>exact absurd e (JH r)
  |cons a t=>rfl
theorem Fo:∀{ws:List (List Nat)},ws≠ []->(∀w∈ws,32∉w)->spB (jnB [32] ws)=ws
 | [],h,_=>absurd rfl h
 | [w],_,h=>by
  have:=KO [] (h w (by simp))
  rw[List.append_nil] at this
  rw[jnB,this];simp[spB,UM]
 |w::v::r,_,h=>by
  rw[jnB,List.append_assoc,KO _ (h w (by simp))]
  show UM w (spB (32::jnB [32] (v::r)))=_
  rw[spB,if_pos rfl,Fo (by simp) λu hu=>h u (List.mem_cons_of_mem _ hu)]
  simp[UM]
theorem F5 {l m:List Str}(h:l.map lsS=m.map lsS):l=m:=by
 induction l generalizing m with
 |nil=>cases m with
  |nil=>rfl
  |cons a m=>simp at h
 |cons a l ih=>cases m with
  |nil=>simp at h
  |cons b m=>
   rw[List.map_cons,List.map_cons] at h
   injection h with h1 h2
   rw[KJ h1,ih h2]
theorem Uv {ws:List Str}(hne:ws≠ [])(h:∀w∈ws,32∉lsS w):Txt.split (Txt.join (" ":Str) ws) (" ":Str)=ws:=by
 apply F5
 rw[UV,QY]
 show spB (jnB [32] (ws.map lsS))=_
 exact Fo (by simpa using hne) λw hw=>by
  obtain⟨u,hu,rfl⟩:=List.mem_map.mp hw
  exact h u hu
noncomputable def dg (m:Nat):List Nat:=(Nat.toDigits 10 m).map Char.toNat
theorem Z7 (m:Nat):NumText.AllDigits (dg m):=λc hc=>by
 obtain⟨ch,hch,e⟩:=List.mem_map.mp hc
 have r:=PyProof.Rows.digit_range (Nat.isDigit_of_mem_toDigits (by decide) (by decide) hch)
 rw[←e];exact r
theorem UN (m:Nat):dg m≠ []:=λe=>by
 have h:=toDigits_len_ge 10 m
 rw[List.map_eq_nil_iff.mp e] at h
 exact absurd h (by decide)
theorem Zr (m:Nat):lsS (sI (m:Int))=dg m:=W.KIN.signs_num m
theorem VH (m:Nat):lsS (sI (-((m+1:Nat):Int)))=45::dg (m+1):=by
 show(Str.ofString (toString (Int.negSucc m))).cps.toList=_
 rw[PyProof.Rows.signs_ofString]
 show("-" ++Nat.repr (m+1)).toList.map Char.toNat=_
 rw[String.toList_append,List.map_append,Nat.toList_repr]
 rfl
theorem G5:∀(n:Nat) (l:List Nat),l.length=n->NumText.AllDigits l->NumText.digitsVal l<10^n
 |0,l,e,_=>by rw[List.length_eq_zero_iff.mp e];decide
 |n+1,l,e,h=>by
  obtain⟨a,c,rfl⟩:∃a c,l=a++[c]:=⟨l.dropLast,l.getLast (λz=>by rw[z] at e;cases e),(List.dropLast_concat_getLast _).symm⟩
  rw[List.length_append] at e
  have ih:=G5 n a (by simpa using e) λd hd=>h d (List.mem_append_left _ hd)
  have hc:=h c (by simp)
  rw[NumText.digitsVal_snoc,Nat.pow_succ]
  omega
theorem Jw (m:Nat){k:Nat}(hk:0<k):(dg m).length<=k↔m<10^k:=by
 constructor
 ·intro h
  have h1:=G5 _ (dg m) rfl (Z7 m)
  rw[show NumText.digitsVal (dg m)=m from W.KIN.val_back m] at h1
  exact Nat.lt_of_lt_of_le h1 (Nat.pow_le_pow_right (by decide) h)
 ·intro h
  have h1:=PyProof.Rows.toString_length_le (v:=(m:Int)) (by omega) hk (by exact_mod_cast h)
  rw[←Zr]
  exact Nat.le_trans (Nat.le_of_eq (show(lsS (sI (m:Int))).length=(sI (m:Int)).length from Array.length_toList)) h1
theorem QE (w:Str):w.length=(lsS w).length:=(Array.length_toList (xs:=w.cps)).symm
theorem GJ:∀c,c<58->48<=c->Unicode.isDigit c=true:=by decide+kernel
theorem CV {w:Str}(h:NumText.AllDigits (lsS w))(hne:lsS w≠ []):Txt.isdigit w=true:=by
 unfold Txt.isdigit
 rw[Bool.and_eq_true]
 refine⟨?_,?_⟩
 ·rw[QE]
  have:0<(lsS w).length:=List.length_pos_iff.mpr hne
  simpa using this
 ·rw[Array.all_eq_true']
  intro c hc
  have:=h c (by unfold lsS;exact Array.mem_def.mp hc)
  exact GJ c (by omega) this.1
theorem KG {w:Str}(h:NumText.AllDigits (lsS w)):Txt.startswith w ("-":Str)=false:=by
 unfold Txt.startswith
 rw[StrLaws.subAt_eq]
 show(_&&((lsS w).drop 0).take 1== [45])=false
 cases e:lsS w with
 |nil=>simp
 |cons c t=>
  have:=h c (by rw[e];simp)
  have:c≠45:=by omega
  simp[this]
theorem Ug {w:Str}{t:List Nat}(h:lsS w=45::t):Txt.startswith w ("-":Str)=true:=by
 unfold Txt.startswith
 rw[StrLaws.subAt_eq,QE w,h]
 show(_&&((lsS w).drop 0).take 1== [45])=true
 rw[h]
 have:(("-":Str).length)=1:=rfl
 rw[this]
 simp
theorem KZ {w:Str}{c:Nat}{t:List Nat}(h:lsS w=c::t):lsS (Txt.slice w (some 1) none)=t:=by
 have hl:w.length=t.length+1:=by rw[QE,h];rfl
 have e1:Builtin.Str.strSliceIndices (some 1) none 1 w.length=Builtin.Str.strSliceIndices (some ((1:Nat):Int)) (some ((w.length:Nat):Int)) 1 w.length:=by
  unfold Builtin.Str.strSliceIndices
  have a1:¬(((w.length:Nat):Int)<0):=by omega
  have a2:max (0:Int) (min (w.length:Int) (w.length:Int))=w.length:=by omega
  simp only[a1,if_false,a2,show((1:Int) > 0)=True from by simp,if_true]
  rfl
 have e2:=StrLaws.sliced_plain w (a:=1) (b:=w.length) (by omega) (Nat.le_refl _)
 have e3:=StrLaws.strSliceIndices_plain (a:=1) (b:=w.length) (len:=w.length) (by omega) (Nat.le_refl _)
 unfold Txt.slice
 rw[if_neg (by rw[e1,e3];simp;omega)]
 show(List.filterMap _ _).toArray.toList=_
 rw[e1,e2,List.toList_toArray]
 show(List.drop 1 (lsS w)).take (w.length-1)=t
 rw[h,hl]
 simp
theorem F0 {w:Str}(hl:w.length<=100)(h:∀c∈lsS w,c<100):(reprText w).length<=2000:=by
 have:=StrLaws.reprText_len w λc hc=>Nat.lt_of_lt_of_le (h c hc) (by decide)
 omega
theorem G8 {n:Nat}(h:n<10^60):n.log2<1920:=by
 by_cases h0:n=0
 ·subst h0;decide
 ·exact Nat.lt_of_lt_of_le ((Nat.log2_lt h0).mpr (Nat.lt_of_lt_of_le h (show 10^60<=2^200 by decide))) (by decide)
theorem Fc {n:Int}{c:Nat}(h:c∈lsS (sI n)):c=45∨48<=c/\c<=57:=by
 rcases Int.eq_nat_or_neg n with⟨m,rfl |rfl⟩
 ·rw[Zr] at h;exact .inr (Z7 m c h)
 ·cases m with
  |zero=>
   have h:c∈lsS (sI ((0:Nat):Int)):=h
   rw[Zr] at h;exact .inr (Z7 0 c h)
  |succ m=>
   rw[VH] at h
   rcases List.mem_cons.mp h with e |e
   ·exact .inl e
   ·exact .inr (Z7 _ c e)
theorem Bs (n:Int):lsS (sI n)≠ []:=by
 rcases Int.eq_nat_or_neg n with⟨m,rfl |rfl⟩
 ·rw[Zr];exact UN m
 ·cases m with
  |zero=>exact λe=>UN 0 ((Zr 0).symm.trans e)
  |succ m=>rw[VH];simp
theorem GX {n:Int}(h:n.natAbs<10^60):(sI n).length<=61:=by
 rw[QE]
 rcases Int.eq_nat_or_neg n with⟨m,rfl |rfl⟩
 ·rw[Zr]
  exact Nat.le_trans ((Jw m (k:=60) (by decide)).mpr (by simpa using h)) (by decide)
 ·cases m with
  |zero=>
   show(lsS (sI ((0:Nat):Int))).length<=61
   rw[Zr];exact Nat.le_trans ((Jw 0 (k:=1) (by decide)).mpr (by decide)) (by decide)
  |succ m=>
   rw[VH,List.length_cons]
   have e:(-((m+1:Nat):Int)).natAbs=m+1:=by omega
   rw[e] at h
   exact Nat.succ_le_succ ((Jw (m+1) (k:=60) (by decide)).mpr h)
theorem VW {w f:Str}{n:Int}(hw:w.length<=100)(hc:∀c∈lsS w,c<100)(hf:(if Txt.startswith w ("-":Str)=true then Txt.slice w (some 1) none else w)=f)(hd:Txt.isdigit f=true)(hn:intText? w=some n)(hs:sI n=w)(hl:n.natAbs<10^60):
  Xw w=if f.length<=18 then .ok n else .err ⟨"NoLine",Pay.non⟩:=by
 have hz:w.length<=sizeLine:=sz (by omega)
 have hfl:f.length<=w.length:=by
  rw[←hf]
  split
  ·exact Txt.slice_le _ _ _
  ·exact Nat.le_refl _
 have hr:=F0 hw hc
 unfold Xw
 simp only[Rs.okb]
 have e1:(if Txt.startswith w ("-":Str)=true then(chk (w.length<=sizeLine) (Rs.ok (Txt.slice w (some 1) none))) else Rs.ok w)=Rs.ok f:=by
  rw[Xl hz, ←hf]
  split<;> rfl
 rw[e1]
 simp only[Rs.okb]
 rw[hd,Xl (show f.length<=sizeLine by omega)]
 simp only[Rs.okb,Bool.not_true]
 rw[GL (c:=decide ((18:Int)<(f.length:Int))) λ_=>rfl]
 simp only[Rs.okb,Bool.false_or]
 by_cases h:f.length<=18
 ·rw[if_pos h,if_neg (by simp;omega)]
  have e2:Fu w= .ok n:=by
   unfold Fu
   rw[hn]
   exact Xl (by omega)
  rw[e2]
  simp only[Rs.okb]
  rw[Xl (G8 hl)]
  simp only[Rs.okb]
  rw[hs]
  simp
 ·rw[if_neg h,if_pos (by simp;omega),Xl hr]
  rfl
theorem Gb {n:Int}(h:n.natAbs<10^60):Xw (sI n)=if n.natAbs<10^18 then .ok n else .err ⟨"NoLine",Pay.non⟩:=by
 have hl:=GX h
 have hc:∀c∈lsS (sI n),c<100:=λc hc=>by rcases Fc hc with z |z<;> omega
 have hz:(sI n).length<=4300:=by omega
 have pos:∀m:Nat,lsS (sI n)=dg m->n=(m:Int)->Xw (sI n)=if n.natAbs<10^18 then .ok n else .err ⟨"NoLine",Pay.non⟩:=λm e en=>by
  have ha:NumText.AllDigits (lsS (sI n)):=by rw[e];exact Z7 m
  have hne:lsS (sI n)≠ []:=by rw[e];exact UN m
  have ht:=intText_digits ha hne hz
  rw[show NumText.digitsVal (sI n).cps.toList=m from(congrArg NumText.digitsVal e).trans (W.KIN.val_back m), ←en] at ht
  rw[VW (f:=sI n) (by omega) hc (by rw[KG ha];rfl) (CV ha hne) ht rfl h]
  have e3:(sI n).length<=18↔n.natAbs<10^18:=by
   rw[QE,e,Jw m (by decide),en];simp
  by_cases z:(sI n).length<=18
  ·rw[if_pos z,if_pos (e3.mp z)]
  ·rw[if_neg z,if_neg λy=>z (e3.mpr y)]
 rcases Int.eq_nat_or_neg n with⟨m,hm |hm⟩
 ·exact pos m (by rw[hm];exact Zr m) hm
 ·cases m with
  |zero=>exact pos 0 (by rw[hm];exact Zr 0) (by rw[hm];rfl)
  |succ m=>
   have e:lsS (sI n)=45::dg (m+1):=by rw[hm];exact VH m
   have ht:=intText_neg e (Z7 _) (UN _) hz
   rw[show NumText.digitsVal (dg (m+1))=m+1 from W.KIN.val_back (m+1), ←hm] at ht
   have es:lsS (Txt.slice (sI n) (some 1) none)=dg (m+1):=KZ e
   rw[VW (f:=Txt.slice (sI n) (some 1) none) (by omega) hc (by rw[Ug e];rfl) (CV (by rw[es];exact Z7 _) (by rw[es];exact UN _)) ht rfl h]
   have e3:(Txt.slice (sI n) (some 1) none).length<=18↔n.natAbs<10^18:=by
    rw[QE,es,Jw _ (by decide),hm]
    have:(-((m+1:Nat):Int)).natAbs=m+1:=by omega
    rw[this]
   by_cases z:(Txt.slice (sI n) (some 1) none).length<=18
   ·rw[if_pos z,if_pos (e3.mp z)]
   ·rw[if_neg z,if_neg λy=>z (e3.mpr y)]
theorem B9 {n:Int}:32∉lsS (sI n):=λh=>by rcases Fc h with z |z<;> omega
theorem Fs {ws:List Str}{B:Nat}(h:∀w∈ws,w.length<=B):(ws.map (·.length)).sum<=ws.length*B:=StrLaws.sumLen_le ws h
theorem Gv (s:Str)(ws:List Str):(Txt.join s ws).length<=(ws.map (·.length)).sum+ws.length*s.length:=by
 unfold Txt.join
 rw[StrLaws.glued_eq_join]
 exact StrLaws.join_length_le s ws
theorem Ja {ws:List Str}(h:∀w∈ws,32∉lsS w/\lsS w≠ [])(hl:ws.length<=2000)(hb:∀w∈ws,w.length<=100):Yn (Txt.join (" ":Str) ws)= .ok ws:=by
 unfold Yn
 simp only[Rs.okb]
 cases ws with
 |nil=>
  have e:Txt.join (" ":Str) []=("":Str):=KJ (QY _ _)
  rw[e]
  rfl
 |cons w r=>
  have hj:=Gv (" ":Str) (w::r)
  have hs:=Fs (B:=100) hb
  have l1:(" ":Str).length=1:=rfl
  rw[l1] at hj
  have ne:Txt.join (" ":Str) (w::r)≠("":Str):=λe=>by
   have e2:lsS (Txt.join (" ":Str) (w::r))=[]:=by rw[e];rfl
   rw[QY] at e2
   have hw:=(h w (by simp)).2
   cases r with
   |nil=>exact hw e2
   |cons v r=>
    have e3:lsS w++lsS (" ":Str)++jnB (lsS (" ":Str)) ((v::r).map lsS)=[]:=e2
    rw[List.append_eq_nil_iff,List.append_eq_nil_iff] at e3
    exact hw e3.1.1
  have c1:(Txt.join (" ":Str) (w::r)).length<=sizeLine:=by
   have:sizeLine=2^24:=by decide
   rw[this];omega
  rw[if_pos (by simpa using ne),Uv (by simp) λw hw=>(h w hw).1]
  exact Xl ⟨by rw[l1];rfl,c1,sz (by omega)⟩
theorem Uz {α:Type}(as:List α){i j:Nat}(h:i<=j)(h2:j<=as.length):JV as (some (i:Int)) (some (j:Int))=(as.drop i).take (j-i):=by
 unfold JV
 rw[HT.sIx_nat,HT.sIx_nat,Nat.min_eq_left h2,Nat.min_eq_left (by omega)]
theorem GN {α:Type}(as:List α){k:Nat}(h:k<=as.length):JV as (some (k:Int)) none=as.drop k:=by
 unfold JV
 rw[HT.sIx_nat,HT.sIx_none,Nat.min_eq_left h]
 exact List.take_of_length_le (by simp)
noncomputable def sgw (g:Int):Str:=if g=1 then "+" else "-"
inductive Fm:Str->Nat->List Mx->List Str->Prop
 |turn:Fm "turn" 2 [] []
 |uncurl:Fm "uncurl" 2 [] []
 |unlay:Fm "unlay" 4 [] []
 |pass:Fm "pass" 6 [] []
 |curl (o:Str) (g:Int) (ho:o= "over" ∨o= "under") (hg:g=1∨g= -1):Fm "curl" 3 [.s o, .i g] [o,sgw g]
 |lay (b:Bool) (g:Int) (hg:g=1∨g= -1):Fm "lay" 6 [.b b, .i g] [if b=true then "crossed" else "plain",sgw g]
section
variable {f:Str}{c:Nat}{ex:List Mx}{xw:List Str}
theorem Fm.cg (F:Fm f c ex xw):cgR tsC f= .ok (c:Int):=by cases F<;> rfl
theorem Fm.fi (F:Fm f c ex xw):(tsC.find? λt=>decide (t.1=f)).isSome=true:=by cases F<;> rfl
theorem Fm.le (F:Fm f c ex xw):2<=c/\c<=6/\xw.length<=2/\ex.length<=2:=by cases F<;> simp
theorem VV {g:Int}(h:g=1∨g= -1):Yc g= .ok (sgw g):=by rcases h with rfl |rfl<;> rfl
theorem Fm.ends (F:Fm f c ex xw):XX f xw= .ok ex:=by
 cases F with
 |turn=>rfl
 |uncurl=>rfl
 |unlay=>rfl
 |pass=>rfl
 |curl o g ho hg=>rcases ho with rfl |rfl<;> rcases hg with rfl |rfl<;> rfl
 |lay b g hg=>cases b<;> rcases hg with rfl |rfl<;> rfl
theorem B2 {ns:List Int}(hl:ns.length<=6)(hb:∀n∈ns,n.natAbs<10^60):Uw (ns.map Mx.i) (λa=>(mxI a).bind λx=>chk (x.natAbs.log2<1920) (.ok (sI x)))= .ok (ns.map sI):=by
 rw[K1 (h:=λm=>match m with | .i n=>sI n |_=>"") (by rw[List.length_map];exact sz (by omega)) λa ha=>?_]
 ·rw[List.map_map];rfl
 ·obtain⟨n,hn,rfl⟩:=List.mem_map.mp ha
  show chk _ _=_
  exact Xl (G8 (hb n hn))
theorem Fm.words (F:Fm f c ex xw){ns:List Int}(hn:ns.length=c)(hb:∀n∈ns,n.natAbs<10^60):(∀w∈f::(ns.map sI++xw),(32∉lsS w/\lsS w≠ [])/\w.length<=100):=by
 have k:∀w∈f::xw,(32∉lsS w/\lsS w≠ [])/\w.length<=100:=by
  cases F with
  |turn=>decide+kernel
  |uncurl=>decide+kernel
  |unlay=>decide+kernel
  |pass=>decide+kernel
  |curl o g ho hg=>rcases ho with rfl |rfl<;> rcases hg with rfl |rfl<;> decide+kernel
  |lay b g hg=>cases b<;> rcases hg with rfl |rfl<;> decide+kernel
 intro w hw
 rcases List.mem_cons.mp hw with e |e
 ·exact k w (by simp[e])
 ·rcases List.mem_append.mp e with e |e
  ·obtain⟨n,h,rfl⟩:=List.mem_map.mp e
   exact⟨⟨B9,Bs n⟩,Nat.le_trans (GX (hb n h)) (by decide)⟩
  ·exact k w (List.mem_cons_of_mem _ e)
theorem Fm.sum (F:Fm f c ex xw){ns:List Int}(hn:ns.length=c)(hb:∀n∈ns,n.natAbs<10^60):((f::(ns.map sI++xw)).map (·.length)).sum+(f::(ns.map sI++xw)).length*(" ":Str).length<=16777216:=by
 have h1:=Fs (B:=100) (ws:=f::(ns.map sI++xw)) λw hw=>(F.words hn hb w hw).2
 have h2:(f::(ns.map sI++xw)).length<=9:=by have:=F.le;simp;omega
 have h3:(" ":Str).length=1:=rfl
 rw[h3];omega
theorem l3 {l:List Int}(h:l.length=3):∃x y z,l=[x,y,z]:=match l,h with | [x,y,z],_=>⟨x,y,z,rfl⟩
theorem l6 {l:List Int}(h:l.length=6):∃x y z u v w,l=[x,y,z,u,v,w]:=match l,h with | [x,y,z,u,v,w],_=>⟨x,y,z,u,v,w,rfl⟩
theorem FK (F:Fm f c ex xw){ns:List Int}(hn:ns.length=c)(hb:∀n∈ns,n.natAbs<10^60):Yb (.s f::(ns.map .i++ex))= .ok (Txt.join (" ":Str) (f::(ns.map sI++xw))):=by
 have hl:=F.le
 have e0:atR (Mx.s f::(ns.map Mx.i++ex)) 0= .ok (.s f):=Zb (Int.le_refl _) rfl
 have ecut:JV (Mx.s f::(ns.map Mx.i++ex)) (some 1) (some ((c:Int)+1))=ns.map Mx.i:=by
  refine(Uz (Mx.s f::(ns.map Mx.i++ex)) (i:=1) (j:=c+1) (by omega) (by simp;omega)).trans ?_
  show(ns.map Mx.i++ex).take c=_
  rw[List.take_append_of_le_length (by simp[hn]),List.take_of_length_le (by simp[hn])]
 have ck:¬(HT.sIx (Mx.s f::(ns.map Mx.i++ex)).length 0 (some 1)=0/\HT.sIx (Mx.s f::(ns.map Mx.i++ex)).length (Mx.s f::(ns.map Mx.i++ex)).length (some ((c:Int)+1))=(Mx.s f::(ns.map Mx.i++ex)).length):=λz=>by
  have:=z.1
  rw[show(some (1:Int))=some ((1:Nat):Int) from rfl,HT.sIx_nat] at this
  simp at this
 have em:=B2 (ns:=ns) (by omega) hb
 have sm:=F.sum hn hb
 unfold Yb
 simp only[Rs.okb,e0,mxS,F.cg,ecut,Xl ck,em,Xl (show[f].length<=sizeLine from sz (by simp))]
 rw[show Ux [f] (ns.map sI)= .ok (f::ns.map sI) from Xl (sz (by simp;omega))]
 simp only[Rs.okb]
 have fin:∀{l:List Str},l=f::(ns.map sI++xw)->chk ((List.map (λx=>x.length) l).sum+l.length*(" ":Str).length<=16777216) (Rs.ok (Txt.join (" ":Str) l))= .ok (Txt.join (" ":Str) (f::(ns.map sI++xw))):=λe=>by rw[e];exact Xl sm
 cases F with
 |turn=>rw[if_neg (by decide),Rs.okb,if_neg (by decide),Rs.okb];exact fin (by simp)
 |uncurl=>rw[if_neg (by decide),Rs.okb,if_neg (by decide),Rs.okb];exact fin (by simp)
 |unlay=>rw[if_neg (by decide),Rs.okb,if_neg (by decide),Rs.okb];exact fin (by simp)
 |pass=>rw[if_neg (by decide),Rs.okb,if_neg (by decide),Rs.okb];exact fin (by simp)
 |curl o g ho hg=>
  obtain⟨x,y,z,rfl⟩:=l3 hn
  have a4:atR (Mx.s "curl" ::([x,y,z].map Mx.i++[.s o, .i g])) 4= .ok (.s o):=Zb (by decide) rfl
  have a5:atR (Mx.s "curl" ::([x,y,z].map Mx.i++[.s o, .i g])) 5= .ok (.i g):=Zb (by decide) rfl
  rw[if_pos (by decide),a4,a5]
  simp only[Rs.okb,mxS,mxI,VV hg,YZ]
  rw[Xl (sz (by simp)),Rs.okb,Xl (sz (by simp)),Rs.okb,if_neg (by decide),Rs.okb]
  exact fin (by simp)
 |lay b g hg=>
  obtain⟨x,y,z,u,v,w,rfl⟩:=l6 hn
  have a4:atR (Mx.s "lay" ::([x,y,z,u,v,w].map Mx.i++[.b b, .i g])) 7= .ok (.b b):=Zb (by decide) rfl
  have a5:atR (Mx.s "lay" ::([x,y,z,u,v,w].map Mx.i++[.b b, .i g])) 8= .ok (.i g):=Zb (by decide) rfl
  rw[if_neg (by decide),Rs.okb,if_pos (by decide),a4,a5]
  simp only[Rs.okb,mxB,mxI,VV hg,YZ]
  rw[show(if b=true then Rs.ok ("crossed":Str) else Rs.ok ("plain":Str))=Rs.ok (if b=true then("crossed":Str) else "plain") by cases b<;> rfl,Rs.okb,Rs.okb,Xl (sz (by simp)),Rs.okb,Xl (sz (by simp)),Rs.okb]
  exact fin (by simp)
theorem VC {α β:Type}{g:α->Rs β}{p:α->Bool}{h:α->β}{e:Exc}:∀{as:List α},(∀a∈as,g a=if p a=true then .ok (h a) else .err e)->Js as g=if as.all p=true then .ok (as.map h) else .err e
 | [],_=>rfl
 |a::as,H=>by
  rw[Js,H a (by simp),VC (as:=as) λb hb=>H b (List.mem_cons_of_mem _ hb)]
  cases h1:p a<;> cases h2:as.all p<;> simp[h1,h2,Rs.bind]
theorem Dz (F:Fm f c ex xw){ns:List Int}(hn:ns.length=c)(hb:∀n∈ns,n.natAbs<10^60):Ya (Txt.join (" ":Str) (f::(ns.map sI++xw)))=if ns.all (λn=>decide (n.natAbs<10^18))=true then .ok (.s f::(ns.map .i++ex)) else .err ⟨"NoLine",Pay.non⟩:=by
 have hl:=F.le
 have hw:=F.words hn hb
 have ew:=Ja (ws:=f::(ns.map sI++xw)) (λw h=>(hw w h).1) (by simp;omega) λw h=>(hw w h).2
 have e0:atR (f::(ns.map sI++xw)) 0= .ok f:=Zb (Int.le_refl _) rfl
 have hlen:(f::(ns.map sI++xw)).length=c+1+xw.length:=by simp[hn];omega
 have c1:JV (f::(ns.map sI++xw)) (some ((c:Int)+1)) none=xw:=by
  refine(GN _ (k:=c+1) (by omega)).trans ?_
  rw[List.drop_succ_cons,List.drop_append_of_le_length (by simp[hn]),List.drop_of_length_le (by simp[hn]),List.nil_append]
 have c2:JV (f::(ns.map sI++xw)) (some 1) (some ((c:Int)+1))=ns.map sI:=by
  refine(Uz _ (i:=1) (j:=c+1) (by omega) (by omega)).trans ?_
  show(ns.map sI++xw).take c=_
  rw[List.take_append_of_le_length (by simp[hn]),List.take_of_length_le (by simp[hn])]
 have em:Uw (ns.map sI) (λa=>Xw a)=if ns.all (λn=>decide (n.natAbs<10^18))=true then .ok ns else .err ⟨"NoLine",Pay.non⟩:=by
  unfold Uw
  rw[Xl (sz (by simp;omega))]
  have k:∀l:List Int,(∀n∈l,n.natAbs<10^60)->Js (l.map sI) (λa=>Xw a)=Js l λn=>Xw (sI n):=λl=>by
   induction l with
   |nil=>intro _;rfl
   |cons a l ih=>intro h;rw[List.map_cons,Js,Js,ih λn hn=>h n (List.mem_cons_of_mem _ hn)]
  rw[k ns hb,VC (p:=λn=>decide (n.natAbs<10^18)) (h:=id) (e:=⟨"NoLine",Pay.non⟩) λn h=>by rw[Gb (hb n h)];simp only[decide_eq_true_eq,id]]
  rw[List.map_id]
 unfold Ya
 simp only[Rs.okb,ew,YZ,e0,F.fi,F.cg,c1,c2,F.ends,Bool.not_true]
 rw[GL (c:=false) λ_=>rfl]
 simp only[Rs.okb,Bool.or_false]
 rw[if_neg (by rw[hlen];simp;omega),em]
 by_cases h:ns.all (λn=>decide (n.natAbs<10^18))=true
 ·rw[if_pos h,if_pos h]
  simp only[Rs.okb]
  rw[if_neg (by rw[hlen];simp;omega),Xl (sz (by simp))]
  simp only[Rs.okb]
  rw[Xl ⟨by simp;omega,sz (by simp;omega)⟩]
  simp only[Rs.okb]
  rw[Xl ⟨by simp,sz (by simp;omega)⟩]
  simp
 ·rw[if_neg h,if_neg h]
  rfl
theorem GA (m:List Mx)(hl:m.length<=100):ZE m m= .ok true:=by
 unfold ZE
 simp only[Rs.okb,Bool.not_true]
 rw[GL (c:=false) λ_=>by simp]
 simp only[Rs.okb,Bool.or_false]
 rw[if_neg (by decide),Yq (by omega)]
 simp only[Rs.okb]
 rw[VR λa ha=>?_]
 ·simp only[Rs.okb,K9]
  exact(Xl trivial).trans (by simp)
 ·obtain⟨i,hi,rfl⟩:=Zp ha
  have e:atR m (i:Int)= .ok m[i]:=XM (List.getElem?_eq_getElem hi)
  rw[e]
  simp only[Rs.okb]
  simp
end
noncomputable def R93 (r:List Int):Prop:=r.length=19/\∀k:Nat,k<6->∃a b c,r[3*k+1]?=some a/\r[3*k+2]?=some b/\r[3*k+3]?=some c/\(0<=a/\a<4)/\(0<=b/\b<2)/\(0<=c/\c<10^59)
theorem JO {r:List Int}(h:R93 r){k:Nat}(hk:k<6):∃n,YA r (k:Int)= .ok n/\n.natAbs<10^60:=by
 obtain⟨a,b,c,ea,eb,ec,ha,hb,hc⟩:=h.2 k hk
 have i1:atR r (3*(k:Int)+1)= .ok a:=XM (i:=3*k+1) ea
 have i2:atR r (3*(k:Int)+2)= .ok b:=XM (i:=3*k+2) eb
 have i3:atR r (3*(k:Int)+3)= .ok c:=XM (i:=3*k+3) ec
 unfold YA
 simp only[Rs.okb]
 rw[ZF (by decide) (by decide)]
 simp only[Rs.okb,i1,i2,i3]
 rw[Z1 (by decide) (by decide) (by decide) (by decide),Z1 (by decide) (by decide) (by decide) (by decide),Z1 (by decide) (by decide) (by decide) (by decide)]
 simp only[Rs.okb]
 rw[Xl (sz (by simp))]
 simp only[Rs.okb]
 obtain⟨p,ep,hp0,hp1⟩:∃p:Int,atR [(10:Int),10^(Int.toNat 6),10^(Int.toNat 18),10^(Int.toNat 59)] a= .ok p/\0<p/\p<=10^59:=by
  obtain⟨n,rfl⟩:∃n:Nat,a=(n:Int):=⟨a.toNat,by omega⟩
  have hn:n<4:=by omega
  rcases n with _ |_ |_ |_ |n
  ·exact⟨_,XM rfl,by decide,by decide⟩
  ·exact⟨_,XM rfl,by decide,by decide⟩
  ·exact⟨_,XM rfl,by decide,by decide⟩
  ·exact⟨_,XM rfl,by decide,by decide⟩
  ·omega
 rw[ep]
 simp only[Rs.okb]
 rw[Y0 hp0]
 simp only[Rs.okb]
 rw[ZF (by decide) (by decide)]
 simp only[Rs.okb]
 rw[Jm (by omega) (by omega)]
 refine⟨_,rfl,?_⟩
 have h1:=Int.emod_nonneg c (show p≠0 by omega)
 have h2:=Int.emod_lt_of_pos c hp0
 have h3:2*b-1=1∨2*b-1= -1:=by omega
 rcases h3 with e |e<;> rw[e]<;> omega
structure Made (q:List Mx×Str×Bool):Prop where
 ex:∃f c ex xw,∃ns:List Int,Fm f c ex xw/\ns.length=c/\(∀n∈ns,n.natAbs<10^60)/\q=(.s f::(ns.map .i++ex),Txt.join (" ":Str) (f::(ns.map sI++xw)),!(ns.all λn=>decide (n.natAbs<10^18)))
theorem VI {q:List Mx×Str×Bool}(h:Made q):Y3 q= .ok true:=by
 obtain⟨f,c,ex,xw,ns,F,hn,hb,rfl⟩:=h.ex
 have hl:=F.le
 have e1:=Dz F hn hb
 unfold Y3
 simp only[Rs.okb,FK F hn hb,YZ]
 rw[GL (c:=false) λ_=>by simp]
 simp only[Rs.okb,Bool.not_true,Bool.or_false]
 rw[if_neg (by decide)]
 have er:QO (Txt.join (" ":Str) (f::(ns.map sI++xw)))= .ok (if ns.all (λn=>decide (n.natAbs<10^18))=true then .inr ("yes", .s f::(ns.map .i++ex)) else .inl ("no",true)):=by
  unfold QO
  simp only[Rs.okb]
  rw[e1]
  by_cases h:ns.all (λn=>decide (n.natAbs<10^18))=true
  ·rw[if_pos h,if_pos h];rfl
  ·rw[if_neg h,if_neg h];rfl
 rw[er]
 simp only[Rs.okb,YZ]
 by_cases h:ns.all (λn=>decide (n.natAbs<10^18))=true
 ·rw[if_pos h,h]
  rw[if_neg (by decide),DU (c:=true) λ_=>?_]
  ·rfl
  ·simp only[getR,Rs.okb]
   rw[GA _ (by simp;omega)]
   rfl
 ·have h2:ns.all (λn=>decide (n.natAbs<10^18))=false:=by simpa using h
  rw[if_neg h,h2]
  rfl
theorem Ck {N:Nat->Int}{c:Nat}:decide ((0:Int)<((((List.range c).map λ(i:Nat)=>(i:Int)).filter λk=>decide ((10:Int)^18<=((N k.toNat).natAbs:Int))).length:Int))=!(((List.range c).map N).all λn=>decide (n.natAbs<10^18)):=by
 rw[Bool.eq_iff_iff]
 simp only[decide_eq_true_eq,Bool.not_eq_true',List.all_eq_false]
 constructor
 ·intro h
  obtain⟨k,hk⟩:=List.exists_mem_of_length_pos (by omega:0<(((List.range c).map λ(i:Nat)=>(i:Int)).filter λk=>decide ((10:Int)^18<=((N k.toNat).natAbs:Int))).length)
  obtain⟨h1,h2⟩:=List.mem_filter.mp hk
  obtain⟨i,hi,rfl⟩:=Zp h1
  refine⟨N i,List.mem_map.mpr ⟨i,List.mem_range.mpr hi,rfl⟩,?_⟩
  have h3:(10:Int)^18<=((N i).natAbs:Int):=by simpa using h2
  intro z
  have z:(N i).natAbs<10^18:=by simpa using z
  omega
 ·rintro⟨n,hn,h2⟩
  obtain⟨i,hi,rfl⟩:=List.mem_map.mp hn
  have hi:=List.mem_range.mp hi
  have h2:¬(N i).natAbs<10^18:=by simpa using h2
  have hm:(i:Int)∈((List.range c).map λ(i:Nat)=>(i:Int)).filter λk=>decide ((10:Int)^18<=((N k.toNat).natAbs:Int)):=by
   refine List.mem_filter.mpr ⟨List.mem_map.mpr ⟨i,List.mem_range.mpr hi,rfl⟩,?_⟩
   simp only[Int.toNat_natCast,decide_eq_true_eq]
   omega
  have:=List.length_pos_of_mem hm
  omega
theorem Zw {N:Nat->Int}{f:Str}{c:Nat}{ex:List Mx}{xw:List Str}(F:Fm f c ex xw)(bnd:∀n∈(List.range c).map N,n.natAbs<10^60){P:List Mx}{W:List Str}(hP:P=((List.range c).map N).map Mx.i++ex)(hW:W=((List.range c).map N).map sI++xw):
  Ok (((G3 0 ((c:Nat):Int)).bind λx151=>CM x151 (λa149=>(((atR P a149).bind mxI).bind λx154=>Rs.ok (x154.natAbs:Int)).bind λx157=>(Uu 10 18).bind λx158=>Rs.ok (decide (x158<=x157))) λa149=>Rs.ok a149).bind λa145=>
   (((chk ([f].length<=sizeLine) (Rs.ok [f])).bind λx162=>Ux x162 W).bind λx167=>chk ((List.map (λx=>x.length) x167).sum+x167.length*(" ":Str).length<=16777216) (Rs.ok (Txt.join (" ":Str) x167))).bind λa159=>
    (((chk ([Mx.s f].length<=sizeLine) (Rs.ok [Mx.s f])).bind λx168=>Ux x168 P).bind λx174=>Rs.ok x174).bind λx178=>Rs.ok (x178,a159,decide ((0:Int)<(a145.length:Int)))) Made:=by
 have hl:=F.le
 subst hP hW
 have sm:=F.sum (ns:=(List.range c).map N) (by simp) bnd
 have ep:Uu 10 18= .ok ((10:Int)^18):=Z1 (by decide) (by decide) (by decide) (by decide)
 rw[Yq (by omega),ep,Xl (show[f].length<=sizeLine from sz (by simp)),Xl (show[Mx.s f].length<=sizeLine from sz (by simp))]
 simp only[Rs.okb]
 rw[DG (p:=λk=>decide ((10:Int)^18<=((N k.toNat).natAbs:Int))) (h:=λa=>a) (sz (by simp;omega)) (λa ha=>by
  obtain⟨i,hi,rfl⟩:=Zp ha
  rw[XM (a:=Mx.i (N i)) (by rw[List.getElem?_append_left (by simp;omega)];simp[hi])]
  rfl) λa _ _=>rfl,List.map_id']
 rw[show Ux [f] (((List.range c).map N).map sI++xw)= .ok (f::(((List.range c).map N).map sI++xw)) from Xl (sz (by simp;omega)),show Ux [Mx.s f] (((List.range c).map N).map Mx.i++ex)= .ok (Mx.s f::(((List.range c).map N).map Mx.i++ex)) from Xl (sz (by simp;omega))]
 simp only[Rs.okb]
 rw[Xl sm]
 simp only[Rs.okb]
 rw[Ck]
 exact⟨_,rfl,⟨f,c,ex,xw,_,F,by simp,bnd,rfl⟩⟩
theorem at2 {α:Type}{a b:α}{u:Nat}(h:u<2):atR [a,b] (u:Int)= .ok (if u=0 then a else b):=by
 rcases u with _ |_ |u
 ·exact XM rfl
 ·exact XM rfl
 ·omega
theorem Dn {α:Type}(l:List α)(a:α):atR (l++[a]) (-1)= .ok a:=by
 unfold atR
 have e:(-1+((l.length:Int)+1)).toNat=l.length:=by omega
 rw[show atI (l++[a]) (-1)=some a by
  unfold atI ixN
  rw[if_neg (by decide),if_pos (by simp;omega)]
  simp[e]]
theorem UL {r m:List Int}(h:R93 r){f u v:Int}(hm:m=[f,u,v])(hf:0<=f/\f<6)(hu:0<=u/\u<2)(hv:0<=v/\v<2):Ok (Qe r m) Made:=by
 subst hm
 have hN:∃N:Nat->Int,∀k:Nat,k<6->YA r (k:Int)= .ok (N k)/\(N k).natAbs<10^60:=by
  refine⟨λk=>if hk:k<6 then Classical.choose (JO h hk) else 0,λk hk=>?_⟩
  simp only[dif_pos hk]
  exact Classical.choose_spec (JO h hk)
 obtain⟨N,hN⟩:=hN
 have i0:atR [f,u,v] 0= .ok f:=Zb (by decide) rfl
 have i1:atR [f,u,v] 1= .ok u:=Zb (by decide) rfl
 have i2:atR [f,u,v] 2= .ok v:=Zb (by decide) rfl
 have nums:∀c:Nat,c<=6->Uw ((List.range c).map λ(i:Nat)=>(i:Int)) (λa44=>(noE (YA r a44)).bind λx50=>Rs.ok (Mx.i x50))= .ok (((List.range c).map N).map Mx.i):=λc hc=>by
  rw[K1 (h:=λk=>Mx.i (N k.toNat)) (sz (by simp;omega)) λa ha=>?_]
  ·rw[List.map_map,List.map_map];rfl
  ·obtain⟨i,hi,rfl⟩:=Zp ha
   rw[(hN i (by omega)).1,YZ,Rs.okb];rfl
 have bnd:∀c:Nat,c<=6->∀n∈(List.range c).map N,n.natAbs<10^60:=λc hc n hn=>by
  obtain⟨i,hi,rfl⟩:=List.mem_map.mp hn
  exact(hN i (by have:=List.mem_range.mp hi;omega)).2
 have em:∀c:Nat,c<=6->Uw (((List.range c).map N).map Mx.i) (λa=>(mxI a).bind λx=>chk (x.natAbs.log2<1920) (.ok (sI x)))= .ok (((List.range c).map N).map sI):=λc hc=>B2 (by simpa using hc) (bnd c hc)
 obtain⟨f,rfl⟩:∃n:Nat,f=(n:Int):=⟨f.toNat,by omega⟩
 obtain⟨u,rfl⟩:∃n:Nat,u=(n:Int):=⟨u.toNat,by omega⟩
 obtain⟨v,rfl⟩:∃n:Nat,v=(n:Int):=⟨v.toNat,by omega⟩
 have hf:f<6:=by omega
 have hu:u<2:=by omega
 have hv:v<2:=by omega
 have hg:(if v=0 then(1:Int) else-1)=1-2*(v:Int):=by split<;> omega
 have hgg:(1-2*(v:Int))=1∨(1-2*(v:Int))= -1:=by omega
 have hsw:sgw (1-2*(v:Int))=if v=0 then("+":Str) else "-":=by
  unfold sgw
  by_cases z:v=0
  ·rw[if_pos z,if_pos (by omega)]
  ·rw[if_neg z,if_neg (by omega)]
 unfold Qe
 simp only[Rs.okb,i0,i1,i2]
 rw[Xl (sz (by simp)),Xl (sz (by simp)),ZF (by decide) (by decide)]
 simp only[Rs.okb,at2 hu,at2 hv,Dn,mxS,Xl (show[("over":Str),"under"].length<=sizeLine from sz (by simp)),Xl (show[("crossed":Str),"plain"].length<=sizeLine from sz (by simp)),Xl (show[("+":Str),"-"].length<=sizeLine from sz (by simp))]
 have zz:∀{α:Type} (c:Nat) (g:Nat->α),c<=6->((List.range c).map g).length<sizeLine:=λc g hc=>K7 (by simp;omega)
 rcases f with _ |_ |_ |_ |_ |_ |f
 ·rw[XM (a:=("turn":Str)) rfl,XM (a:=((2:Nat):Int)) rfl]
  simp only[Rs.okb]
  rw[Yq (by decide)]
  simp only[Rs.okb]
  rw[nums 2 (by decide)]
  simp only[Rs.okb]
  rw[em 2 (by decide)]
  simp only[Rs.okb]
  rw[if_neg (by decide)]
  simp only[Rs.okb]
  rw[if_neg (by decide)]
  simp only[Rs.okb]
  rw[if_neg (by decide)]
  simp only[Rs.okb]
  have:=Zw Fm.turn (bnd 2 (by decide)) (List.append_nil _).symm (List.append_nil _).symm
  rw[Yq (by decide)] at this
  simp only[Rs.okb] at this
  exact this
 ·rw[XM (a:=("curl":Str)) rfl,XM (a:=((3:Nat):Int)) rfl]
  simp only[Rs.okb]
  rw[Yq (by decide)]
  simp only[Rs.okb]
  rw[nums 3 (by decide)]
  simp only[Rs.okb]
  rw[em 3 (by decide)]
  simp only[Rs.okb]
  rw[if_pos (by decide),Xl (K7 (by simp)),Xl (K7 (by simp))]
  simp only[Rs.okb]
  rw[if_neg (by decide)]
  simp only[Rs.okb]
  rw[if_pos (by decide),Xl (K7 (by simp)),Xl (K7 (by simp))]
  simp only[Rs.okb]
  have:=Zw (Fm.curl (if u=0 then "over" else "under") _ (by split<;> simp) hgg) (bnd 3 (by decide)) (P:=((List.range 3).map N).map Mx.i++[Mx.s (if u=0 then("over":Str) else "under")]++[Mx.i (1-2*(v:Int))]) (W:=((List.range 3).map N).map sI++[if u=0 then("over":Str) else "under"]++[if v=0 then("+":Str) else "-"]) (List.append_assoc _ [_] [_]) (by rw[hsw];exact List.append_assoc _ [_] [_])
  rw[Yq (by decide)] at this
  simp only[Rs.okb] at this
  exact this
 ·rw[XM (a:=("uncurl":Str)) rfl,XM (a:=((2:Nat):Int)) rfl]
  simp only[Rs.okb]
  rw[Yq (by decide)]
  simp only[Rs.okb]
  rw[nums 2 (by decide)]
  simp only[Rs.okb]
  rw[em 2 (by decide)]
  simp only[Rs.okb]
  rw[if_neg (by decide)]
  simp only[Rs.okb]
  rw[if_neg (by decide)]
  simp only[Rs.okb]
  rw[if_neg (by decide)]
  simp only[Rs.okb]
  have:=Zw Fm.uncurl (bnd 2 (by decide)) (List.append_nil _).symm (List.append_nil _).symm
  rw[Yq (by decide)] at this
  simp only[Rs.okb] at this
  exact this
 ·rw[XM (a:=("lay":Str)) rfl,XM (a:=((6:Nat):Int)) rfl]
  simp only[Rs.okb]
  rw[Yq (by decide)]
  simp only[Rs.okb]
  rw[nums 6 (by decide)]
  simp only[Rs.okb]
  rw[em 6 (by decide)]
  simp only[Rs.okb]
  rw[if_neg (by decide)]
  simp only[Rs.okb]
  rw[if_pos (by decide),Xl (K7 (by simp)),Xl (K7 (by simp))]
  simp only[Rs.okb]
  rw[if_pos (by decide),Xl (K7 (by simp)),Xl (K7 (by simp))]
  simp only[Rs.okb]
  have:=Zw (Fm.lay (decide ((u:Int)=0)) _ hgg) (bnd 6 (by decide)) (P:=((List.range 6).map N).map Mx.i++[Mx.b (decide ((u:Int)=0))]++[Mx.i (1-2*(v:Int))]) (W:=((List.range 6).map N).map sI++[if u=0 then("crossed":Str) else "plain"]++[if v=0 then("+":Str) else "-"]) (List.append_assoc _ [_] [_]) (by
   rw[hsw,show(if decide ((u:Int)=0)=true then("crossed":Str) else "plain")=if u=0 then("crossed":Str) else "plain" by simp];exact List.append_assoc _ [_] [_])
  rw[Yq (by decide)] at this
  simp only[Rs.okb] at this
  exact this
 ·rw[XM (a:=("unlay":Str)) rfl,XM (a:=((4:Nat):Int)) rfl]
  simp only[Rs.okb]
  rw[Yq (by decide)]
  simp only[Rs.okb]
  rw[nums 4 (by decide)]
  simp only[Rs.okb]
  rw[em 4 (by decide)]
  simp only[Rs.okb]
  rw[if_neg (by decide)]
  simp only[Rs.okb]
  rw[if_neg (by decide)]
  simp only[Rs.okb]
  rw[if_neg (by decide)]
  simp only[Rs.okb]
  have:=Zw Fm.unlay (bnd 4 (by decide)) (List.append_nil _).symm (List.append_nil _).symm
  rw[Yq (by decide)] at this
  simp only[Rs.okb] at this
  exact this
 ·rw[XM (a:=("pass":Str)) rfl,XM (a:=((6:Nat):Int)) rfl]
  simp only[Rs.okb]
  rw[Yq (by decide)]
  simp only[Rs.okb]
  rw[nums 6 (by decide)]
  simp only[Rs.okb]
  rw[em 6 (by decide)]
  simp only[Rs.okb]
  rw[if_neg (by decide)]
  simp only[Rs.okb]
  rw[if_neg (by decide)]
  simp only[Rs.okb]
  rw[if_neg (by decide)]
  simp only[Rs.okb]
  have:=Zw Fm.pass (bnd 6 (by decide)) (List.append_nil _).symm (List.append_nil _).symm
  rw[Yq (by decide)] at this
  simp only[Rs.okb] at this
  exact this
 ·omega
theorem Gj {r:List Int}(hl:r.length=19)(hr:∀(i:Nat) x s,r[i]?=some x->([(1:Int)]++(List.replicate 6 [(4:Int),2,10^59]).flatten)[i]?=some s->0<=x/\x<s):R93 r:=by
  refine⟨hl,λk hk=>?_⟩
  have g:∀i:Nat,i<19->∃x,r[i]?=some x:=λi hi=>⟨r[i],List.getElem?_eq_getElem (by omega)⟩
  obtain⟨a,ea⟩:=g (3*k+1) (by omega)
  obtain⟨b,eb⟩:=g (3*k+2) (by omega)
  obtain⟨c,ec⟩:=g (3*k+3) (by omega)
  refine⟨a,b,c,ea,eb,ec,hr _ _ _ ea ?_,hr _ _ _ eb ?_,hr _ _ _ ec ?_⟩<;>
    (have hk':k=0∨k=1∨k=2∨k=3∨k=4∨k=5:=by omega
     rcases hk' with rfl |rfl |rfl |rfl |rfl |rfl<;> rfl)
theorem GO {r:List Int}(hl:r.length=3)(hr:∀(i:Nat) x s,r[i]?=some x->([(6:Int),2,2])[i]?=some s->0<=x/\x<s):∃f u v,r=[f,u,v]/\(0<=f/\f<6)/\(0<=u/\u<2)/\(0<=v/\v<2):=by
 obtain⟨f,u,v,rfl⟩:=l3 hl
 exact⟨f,u,v,rfl,hr 0 _ _ rfl rfl,hr 1 _ _ rfl rfl,hr 2 _ _ rfl rfl⟩
theorem Gd (ns:List Int)(_:ns.length<=63):Vd ns= .ok true:=by
 have big:∀p:Int,0<=p->Ok (Qo ns p ([(1:Int)]++(List.replicate 6 [(4:Int),2,10^59]).flatten)) R93:=λp hp=>
  (Fi ns hp _ (by decide) (by decide)).imp λr h=>Gj h.1 h.2
 have small:∀p:Int,0<=p->Ok (Qo ns p [(6:Int),2,2]) λr=>∃ f u v,r=[f,u,v]/\(0<=f/\f<6)/\(0<=u/\u<2)/\(0<=v/\v<2):=λp hp=>
  (Fi ns hp _ (by decide) (by decide)).imp λr h=>GO h.1 h.2
 obtain⟨r1,e1,R1⟩:=big 0 (by decide)
 obtain⟨r2,e2,R2⟩:=big 1 (by decide)
 obtain⟨r3,e3,f,u,v,h3,hf,hu,hv⟩:=small 2 (by decide)
 obtain⟨r4,e4,f',u',v',h4,hf',hu',hv'⟩:=small 3 (by decide)
 obtain⟨q1,m1,M1⟩:=UL R1 h3 hf hu hv
 obtain⟨q2,m2,M2⟩:=UL R2 h4 hf' hu' hv'
 have ep:Uu 10 59= .ok ((10:Int)^59):=Z1 (by decide) (by decide) (by decide) (by decide)
 have er:Bp [(4:Int),2,10^59] 6= .ok (List.replicate 6 [(4:Int),2,10^59]).flatten:=Xl (by decide)
 have ec:Ux [(1:Int)] (List.replicate 6 [(4:Int),2,10^59]).flatten= .ok ([(1:Int)]++(List.replicate 6 [(4:Int),2,10^59]).flatten):=Xl (by decide)
 unfold Vd
 simp only[Rs.okb,ep,Xl (show[(1:Int)].length<=sizeLine from sz (by simp)),Xl (show[(4:Int),2,10^59].length<=sizeLine from sz (by simp)),Xl (show[(6:Int),2,2].length<=sizeLine from sz (by simp)),er,ec]
 rw[e1,e2,e3,e4]
 simp only[Rs.okb,YZ]
 rw[m1,m2]
 simp only[Rs.okb,YZ]
 rw[VI M1,VI M2]
 rfl
noncomputable def top (i:Nat):Stmt:=PySem.Challenge.pw_plait_k93_moves_as_lines.main.body.getD i (.Pass ⟨0,0,0,0⟩)
noncomputable abbrev Zj:Stmt:=top 7
noncomputable abbrev YO:Stmt:=top 8
noncomputable abbrev Zy:Stmt:=top 9
noncomputable abbrev YL:Stmt:=top 10
noncomputable abbrev Zg:Stmt:=top 11
noncomputable abbrev YI:Stmt:=top 12
noncomputable abbrev YC:Stmt:=top 13
noncomputable abbrev YM:Stmt:=top 14
noncomputable abbrev UB:Stmt:=top 16
noncomputable abbrev DE:Stmt:=top 17
noncomputable abbrev F7:Stmt:=top 18
noncomputable abbrev UP:Stmt:=top 19
noncomputable abbrev Jf:Stmt:=top 20
noncomputable abbrev QN:Stmt:=top 21
noncomputable abbrev Vo:Stmt:=top 22
noncomputable abbrev Vr:Stmt:=top 23
noncomputable abbrev QS:Stmt:=top 24
structure Blt (mg:Str->Option Value):Prop where
 b_abs:mg "abs" =none
 b_bool:mg "bool" =none
 b_int:mg "int" =none
 b_isinstance:mg "isinstance" =none
 b_len:mg "len" =none
 b_range:mg "range" =none
 b_str:mg "str" =none
 b_tuple:mg "tuple" =none
 c_MOST_FIGURES:∃u,mg "MOST_FIGURES" =some u/\XV (.int 18) u
structure Cds (P:Program)(w:World)(K:PySem.W.Frag)(mg:Str->Option Value):Prop where
 d0:∃p,mg "NUMBERS_OF_MOVES" =some (.ref p)/\Bg P w K p tsC
section
variable {P:Program}{w:World}{K:PySem.W.Frag}{mg:Str->Option Value}{base:Heap}
theorem Jy:FnScope ["sign"] ["sign"] (Xk Zj):=⟨rfl,rfl,rfl,by decide+kernel,rfl,by decide+kernel,by decide+kernel⟩
theorem JT (D:Def K mg "sign_word" Zj ["sign"])(Y:Ecs XR K mg)(Wc:Cds P w K mg)(Z:Blt mg):Fn P w K mg base 1 "sign_word" ["sign"] (sp1 Xg (oF Xm) Yc K):=by
 refine Qq D Jy (λvs H Q E h=>?_) (λf cdv A outer s H vs Q E hr h=>?_)
 ·obtain⟨v_0,a_0,b,rfl,_⟩:=h;rfl
 obtain⟨v_0,a_0,b,rfl,h_0,hm,q⟩:=h
 have hu:=hu8 hr
 have hu1:=Y2 hr
 refine⟨_,(Xc (XO (Zt (XB ZU (pv 0) Xe (XH _)) Xq Xq))
  Xh),?_⟩
 refine ZW (S:=(SC.add SC.nil K Xg v_0 a_0)) (σ:=[some v_0]) 0 ?_ (SC.i SC.t h_0) hm q rfl
 unfold Yc
 exact(XN (Dv (Xt (K:=K) (YT (Xb (r:=Xg) 0 rfl (λ_ s=>s.r)) (Xd 1))) (EvS.ev (EvB.sh (Xo _))) (EvS.ev (EvB.sh (Xo _)))))
theorem YX:FnScope ["move","count","words"] ["move"] (Xk YO):=⟨rfl,rfl,rfl,by decide+kernel,rfl,by decide+kernel,by decide+kernel⟩
theorem JK (D:Def K mg "show_move" YO ["move"])(g_sign_word:Fn P w K mg base 1 "sign_word" ["sign"] (sp1 Xg (oF Xm) Yc K))(Y:Ecs XR K mg)(Wc:Cds P w K mg)(Z:Blt mg):Fn P w K mg base 2 "show_move" ["move"] (sp1 (rPL rMx) (oF Xm) Yb K):=by
 refine Qq D YX (λvs H Q E h=>?_) (λf cdv A outer s H vs Q E hr h=>?_)
 ·obtain⟨v_0,a_0,b,rfl,_⟩:=h;rfl
 obtain⟨v_0,a_0,b,rfl,h_0,hm,q⟩:=h
 obtain⟨p_c,h_c,d_c⟩:=Wc.d0
 have hu:=hu8 hr
 have hu1:=Y2 hr
 refine⟨_,(Xc (XE (i:=1) YX.nd rfl (Or.inl rfl) (U0 d_c rfl h_c (XG (X4 K rfl) (pv 0) Xe (λ_ _=>rfl)) (λ_ _=>rfl)))
  (Xc (XE (i:=2) YX.nd rfl (Or.inl rfl) (Xy J1 (X3 (Xa (XG (X4 K rfl) (pv 0) Xe (λ_ _=>rfl)) Xf)) (VZ (sc:=(Xk YO)) (N0:=["move","count","words"]) (tns:=["number"]) (caps:=[]) rfl (Dt (K:=K) rfl (Zv (FQ K rfl) (pv 0) (Zi Xe) (Zi (Xy Yz (pv 1) Xe)))) (Qt (by decide)) (λcl C s H ex E=>⟨Yv (i:=0) (show List.Nodup (["number"]:List Str) by decide+kernel) rfl (Or.inl rfl),Jd,(YG YV rfl Z.b_str PyProof.Rows.boot_str (Xa (pv 0) Xf))⟩))))
  (Xc (Yt (XB ZU (XG (X4 K rfl) (pv 0) Xe (λ_ _=>rfl)) Xq (XH _))
   (Xc (Yp (ZS PySem.F.plainAttrs_list PySem.F.slot_list_extend PySem.F.type_list_extend JA (pv 2) (Xa (X3 (Xa (XG (X4 K rfl) (pv 0) Xe (λ_ _=>rfl)) (Xa (YE g_sign_word hr (by decide) (Xa (XG (X4 K rfl) (pv 0) Xe (λ_ _=>rfl)) Xf)) Xf))) Xf Zm)))
   Xh)
   Xh)
  (Xc (Yt (XB ZU (XG (X4 K rfl) (pv 0) Xe (λ_ _=>rfl)) Xq (XH _))
   (Xc (Yp (ZS PySem.F.plainAttrs_list PySem.F.slot_list_extend PySem.F.type_list_extend JA (pv 2) (Xa (X3 (Xa (Zt (ZP (XG (X4 K rfl) (pv 0) Xe (λ_ _=>rfl))) Xq Xq) (Xa (YE g_sign_word hr (by decide) (Xa (XG (X4 K rfl) (pv 0) Xe (λ_ _=>rfl)) Xf)) Xf))) Xf Zm)))
   Xh)
   Xh)
  (Xc (XO (V1 (K:=K) rfl PySem.F.plainAttrs_str PySem.F.slot_str_join PySem.F.type_str_join (Kg K rfl) Xq (Xa (pv 2) Xf)))
  Xh))))),?_⟩
 refine ZW (S:=(SC.add SC.nil K (rPL rMx) v_0 a_0)) (σ:=[some v_0,none,none]) 1 ?_ (SC.i SC.t h_0) hm q rfl
 unfold Yb
 exact(XL (K:=K) (r:=Xg) 1 (EvB.sh (VN (ZI (Yj (Xb (r:=(rPL rMx)) 0 rfl (λ_ s=>s.r)) (Xd 0))))) λa1 v2=>(Q2 (K:=K) (o:=(oL (oF Xm))) 2 0 (JU (Ev.ls (Ye (Xj (EvB.sh (ZI (Yj (Xb (r:=(rPL rMx)) 0 rfl (λ_ s=>s.l.r)) (Xd 0)))) XI))) (Ev.ls (Jc (λ_=>tg1 0) (Gq (EvB.sh (Ui (Xb (r:=(rPL rMx)) 0 rfl (λ_ s=>s.l.r)) (YJ (K:=K) (Xd 1)) (YJ (K:=K) (X5 (Xb (r:=Xg) 1 rfl (λ_ s=>s.r)) (Xd 1)))))) (λC23 a24 v25=>(EvS.ev (EvB.sh (Q8 (Qv (Xb (r:=rMx) 0 rfl (λ_ s=>s.r)))))))))) (Nat.le_of_ble_eq_true rfl) λa6 v7 C8=>(Zk (J:=({oo:=λx34=>[x34.2],ss:=λx34=>[some v_0,some v2,some x34.1],sc:=λg35 x34=>(SC.addO (SC.add (SC.add SC.nil K (rPL rMx) v_0 a_0) K Xg v2 a1) K (oL (oF Xm)) x34.1 g35 x34.2)}:Jn ((List Str)) (V×List Xs))) (Qk (Fd:=FNd ({oo:=λx34=>[x34.2],ss:=λx34=>[some v_0,some v2,some x34.1],sc:=λg35 x34=>(SC.addO (SC.add (SC.add SC.nil K (rPL rMx) v_0 a_0) K Xg v2 a1) K (oL (oF Xm)) x34.1 g35 x34.2)}:Jn ((List Str)) (V×List Xs))) (Xt (K:=K) (YT (ZI (Yj (Xb (r:=(rPL rMx)) 0 rfl (λ_ s=>s.l.l.r)) (Xd 0))) (Xo _))) (GZ (K:=K) (o:=(oF Xm)) (f:=λa49=>(Rs.ok (a49))) 2 0 rfl rfl rfl (λ_ s=>s.r) (Ye (Xj (EvB.sh (ZI (Yj (Xb (r:=(rPL rMx)) 0 rfl (λ_ s=>s.l.l.r)) (Xd 4)))) (Xj (EvB.sh (Ev.toB (Yw (Qv (Yj (Xb (r:=(rPL rMx)) 0 rfl (λ_ s=>s.l.l.r)) (Xd 5)))))) XI))) λa47 C48=>(Yf (J:=_) (v7,C48) ((a6++a47)) rfl rfl (λ_ s=>(SC.i (SC.i (SC.i SC.t s.l.l.l.r) s.l.l.r) s.r)))) (Yf (J:=_) (v7,C8) (a6) rfl rfl (λ_ s=>(SC.i (SC.i (SC.i SC.t s.l.l.r) s.l.r) s.r)))) λg51 x50=>(Zk (J:=({oo:=λx57=>[x57.2],ss:=λx57=>[some v_0,some v2,some x57.1],sc:=λg58 x57=>(SC.addO (SC.add (SC.add SC.nil K (rPL rMx) v_0 a_0) K Xg v2 a1) K (oL (oF Xm)) x57.1 g58 x57.2)}:Jn ((List Str)) (V×List Xs))) (Qk (Fd:=FNd ({oo:=λx57=>[x57.2],ss:=λx57=>[some v_0,some v2,some x57.1],sc:=λg58 x57=>(SC.addO (SC.add (SC.add SC.nil K (rPL rMx) v_0 a_0) K Xg v2 a1) K (oL (oF Xm)) x57.1 g58 x57.2)}:Jn ((List Str)) (V×List Xs))) (Xt (K:=K) (YT (ZI (Yj (Xb (r:=(rPL rMx)) 0 rfl (λ_ s=>s.l.l.r)) (Xd 0))) (Xo _))) (GZ (K:=K) (o:=(oF Xm)) (f:=λa73=>(Rs.ok (a73))) 2 0 rfl rfl rfl (λ_ s=>s.r) (Ye (Xj (EvB.sh (Fj (Qw (K:=K) (Dy (Yj (Xb (r:=(rPL rMx)) 0 rfl (λ_ s=>s.l.l.r)) (Xd 7)))) (Xo _) (Xo _))) (Xj (EvB.sh (Ev.toB (Yw (Qv (Yj (Xb (r:=(rPL rMx)) 0 rfl (λ_ s=>s.l.l.r)) (Xd 8)))))) XI))) λa71 C72=>(Yf (J:=_) (x50.1,C72) ((g51++a71)) rfl rfl (λ_ s=>(SC.i (SC.i (SC.i SC.t s.l.l.l.r) s.l.l.r) s.r)))) (Yf (J:=_) (x50.1,x50.2) (g51) rfl rfl (λ_ s=>(SC.i (SC.i (SC.i SC.t s.l.l.r) s.l.r) s.r)))) λg75 x74=>(XN (EvS.ev (EvB.sh (V5 (Xo _) (Vl (o:=(oL (oF Xm))) 2 0 rfl rfl (λ_ s=>s.r))))))))))
theorem Vf:FnScope ["line"] ["line"] (Xk Zy):=⟨rfl,rfl,rfl,by decide+kernel,rfl,by decide+kernel,by decide+kernel⟩
theorem Vx (D:Def K mg "words_of" Zy ["line"])(Y:Ecs XR K mg)(Wc:Cds P w K mg)(Z:Blt mg):Fn P w K mg base 1 "words_of" ["line"] (sp1 Xm (oL (oF Xm)) Yn K):=by
 refine Qq D Vf (λvs H Q E h=>?_) (λf cdv A outer s H vs Q E hr h=>?_)
 ·obtain⟨v_0,a_0,b,rfl,_⟩:=h;rfl
 obtain⟨v_0,a_0,b,rfl,h_0,hm,q⟩:=h
 have hu:=hu8 hr
 have hu1:=Y2 hr
 refine⟨_,(Xc (XO (Zt (XB J9 (pv 0) Xq (XH _)) (V1 (K:=K) rfl PySem.F.plainAttrs_str PySem.F.slot_str_split PySem.F.type_str_split Gr (pv 0) (Xa Xq Xf)) (X3 Xf)))
  Xh),?_⟩
 refine ZW (S:=(SC.add SC.nil K Xm v_0 a_0)) (σ:=[some v_0]) 0 ?_ (SC.i SC.t h_0) hm q rfl
 unfold Yn
 exact(XN (Dv (Xt (K:=K) (Z3 (Xb (r:=Xm) 0 rfl (λ_ s=>s.r)) (Xo _))) (Gs (Xb (r:=Xm) 0 rfl (λ_ s=>s.r)) (Xo _)) (CF (o:=(oF Xm)))))
theorem YB:FnScope ["word","figures","number"] ["word"] (Xk YL):=⟨rfl,rfl,rfl,by decide+kernel,rfl,by decide+kernel,by decide+kernel⟩
theorem QA (D:Def K mg "read_number" YL ["word"])(Y:Ecs XR K mg)(Wc:Cds P w K mg)(Z:Blt mg):FnX P w K mg base 1 "read_number" ["word"] (FD mg Xm (oF Xg) Xw K):=by
 refine Ju D YB (λvs H Q E h=>?_) (λf cdv A outer s H vs Q E hr h=>?_)
 ·obtain⟨v_0,a_0,rfl,_⟩:=h;rfl
 obtain⟨v_0,a_0,rfl,h_0,hz⟩:=h
 obtain⟨C_NoLine,h_NoLine,q_NoLine⟩:=Y.adr "NoLine" (.tail _ (.tail _ (.head _)))
 replace q_NoLine:=q_NoLine (by decide)
 have hu:=hu8 hr
 have hu1:=Y2 hr
 refine⟨_,(Xc (PS.nox (XE (i:=1) YB.nd rfl (Or.inl rfl) (Zt (ZP (V1 (K:=K) rfl PySem.F.plainAttrs_str PySem.F.slot_str_startswith PySem.F.type_str_startswith Km (pv 0) (Xa Xq Xf))) (Zv CN (pv 0) (Zi Xe) Ve) (pv 0))))
  (Xc (Yt (PW.pt (Uk (JE (ZP (Bc PySem.F.plainAttrs_str PySem.F.slot_str_isdigit PySem.F.type_str_isdigit Gf (pv 1)))) (QL (XB GT (XC Jt rfl Z.b_len PySem.boot_len (Xa (pv 1) Xf)) (DX Z.c_MOST_FIGURES rfl) (XH _)))))
   (Xc (YQ Qi rfl q_NoLine rfl h_NoLine (Xa (Bf (Vz (pv 0) (QK Xq V0))) Xf))
   Xh)
   Xh)
  (Xc (PS.nox (XE (i:=2) YB.nd rfl (Or.inl rfl) (YG Kf rfl Z.b_int PyProof.Rows.boot_int (Xa (pv 0) Xf))))
  (Xc (Yt (XB J9 (YG YV rfl Z.b_str PyProof.Rows.boot_str (Xa (pv 2) Xf)) (pv 0) (XH _))
   (Xc (YQ Qi rfl q_NoLine rfl h_NoLine (Xa (Bf (Vz (pv 0) (QK Xq V0))) Xf))
   Xh)
   Xh)
  (Xc (PS.nox (XO (pv 2)))
  Xh))))),?_⟩
 refine JQ (S:=(SC.add SC.nil K Xm v_0 a_0)) (σ:=[some v_0,none,none]) 0 ?_ (SC.i SC.t h_0) hz rfl
 unfold Xw
 exact(XL (K:=K) (r:=Xm) 1 (EvB.sh (Fj (Qw (K:=K) (Uo (Xb (r:=Xm) 0 rfl (λ_ s=>s.r)) (Xo _))) (Up (Xb (r:=Xm) 0 rfl (λ_ s=>s.r)) (YJ (K:=K) (Xd 1)) Q3) (Xb (r:=Xm) 0 rfl (λ_ s=>s.r)))) λa1 v2=>(Yy (QF (Qm (Qw (K:=K) (KP (Xb (r:=Xm) 1 rfl (λ_ s=>s.r))))) (Xt (K:=K) (VU (Ge (Xb (r:=Xm) 1 rfl (λ_ s=>s.r))) (Xd 18)))) (YK h_NoLine (GP (QZ (K:=K) (Xb (r:=Xm) 0 rfl (λ_ s=>s.l.r)) (Zx Jj)))) (XL (K:=K) (r:=Xg) 2 (EvB.sh (Gz (Xb (r:=Xm) 0 rfl (λ_ s=>s.l.r)))) λa18 v19=>(Yy (Xt (K:=K) (Z3 (Q8 (Xb (r:=Xg) 2 rfl (λ_ s=>s.r))) (Xb (r:=Xm) 0 rfl (λ_ s=>s.l.l.r)))) (YK h_NoLine (GP (QZ (K:=K) (Xb (r:=Xm) 0 rfl (λ_ s=>s.l.l.r)) (Zx Jj)))) (XN (EvS.ev (X9 (r:=Xg) 2 rfl (λ_ s=>s.r))))))))
theorem JM:FnScope ["word"] ["word"] (Xk Zg):=⟨rfl,rfl,rfl,by decide+kernel,rfl,by decide+kernel,by decide+kernel⟩
theorem Jz (D:Def K mg "read_sign" Zg ["word"])(Y:Ecs XR K mg)(Wc:Cds P w K mg)(Z:Blt mg):FnX P w K mg base 1 "read_sign" ["word"] (FD mg Xm (oF Xg) Ys K):=by
 refine Ju D JM (λvs H Q E h=>?_) (λf cdv A outer s H vs Q E hr h=>?_)
 ·obtain⟨v_0,a_0,rfl,_⟩:=h;rfl
 obtain⟨v_0,a_0,rfl,h_0,hz⟩:=h
 obtain⟨C_NoLine,h_NoLine,q_NoLine⟩:=Y.adr "NoLine" (.tail _ (.tail _ (.head _)))
 replace q_NoLine:=q_NoLine (by decide)
 have hu:=hu8 hr
 have hu1:=Y2 hr
 refine⟨_,(Xc (Yt (XB ZK (pv 0) (YY (Xa Xq (Xa Xq Xf))) rfl)
   (Xc (YQ Qi rfl q_NoLine rfl h_NoLine (Xa (Bf (Vz (pv 0) (QK Xq V0))) Xf))
   Xh)
   Xh)
  (Xc (PS.nox (XO (Zt (XB ZU (pv 0) Xq (XH _)) Xe (DY Fg Xe))))
  Xh)),?_⟩
 refine JQ (S:=(SC.add SC.nil K Xm v_0 a_0)) (σ:=[some v_0]) 0 ?_ (SC.i SC.t h_0) hz rfl
 unfold Ys
 exact(Yy (Xt (K:=K) (VB (Xb (r:=Xm) 0 rfl (λ_ s=>s.r)) (QV (Ev.toB (EvS.ev (Y7 (EvB.sh (Xo _)) (EvB.sh (Xo _)))))))) (YK h_NoLine (GP (QZ (K:=K) (Xb (r:=Xm) 0 rfl (λ_ s=>s.r)) (Zx Jj)))) (XN (Dv (Xt (K:=K) (YT (Xb (r:=Xm) 0 rfl (λ_ s=>s.r)) (Xo _))) (EvS.ev (EvB.sh (Xd 1))) (EvS.ev (EvB.sh (UF (Xd 1)))))))
theorem Qz:FnScope ["words","one","other"] ["words","one","other"] (Xk YM):=⟨rfl,rfl,rfl,by decide+kernel,rfl,by decide+kernel,by decide+kernel⟩
theorem Qy (D:Def K mg "read_choice" YM ["words","one","other"])(Y:Ecs XR K mg)(Wc:Cds P w K mg)(Z:Blt mg):FnX P w K mg base 1 "read_choice" ["words","one","other"] (BL mg (rV Xm) Xm Xm (oF Xm) X6 K):=by
 refine Ju D Qz (λvs H Q E h=>?_) (λf cdv A outer s H vs Q E hr h=>?_)
 ·obtain⟨v_0,v_1,v_2,a_0,a_1,a_2,rfl,_⟩:=h;rfl
 obtain⟨v_0,v_1,v_2,a_0,a_1,a_2,rfl,h_0,h_1,h_2,hz⟩:=h
 obtain⟨C_NoLine,h_NoLine,q_NoLine⟩:=Y.adr "NoLine" (.tail _ (.tail _ (.head _)))
 replace q_NoLine:=q_NoLine (by decide)
 obtain⟨p_c,h_c,d_c⟩:=Wc.d0
 have hu:=hu8 hr
 have hu1:=Y2 hr
 refine⟨_,(Xc (Yt (PW.pt (Uk (XB J9 (XC (Xz K rfl) rfl Z.b_len PySem.boot_len (Xa (pv 0) Xf)) Xe (XH _)) (QL (XB ZK (XG (Xp K rfl) (pv 0) Xe (λ_ _=>rfl)) (YY (Xa (pv 1) (Xa (pv 2) Xf))) rfl))))
   (Xc (YQ Qi rfl q_NoLine rfl h_NoLine (Xa (Bf (QK Xq (U3 (pv 1) (QK Xq (U3 (pv 2) (QK Xq V0)))))) Xf))
   Xh)
   Xh)
  (Xc (PS.nox (XO (XG (Xp K rfl) (pv 0) Xe (λ_ _=>rfl))))
  Xh)),?_⟩
 refine JQ (S:=(SC.add (SC.add (SC.add SC.nil K (rV Xm) v_0 a_0) K Xm v_1 a_1) K Xm v_2 a_2)) (σ:=[some v_0,some v_1,some v_2]) 0 ?_ (SC.i (SC.i (SC.i SC.t h_0) h_1) h_2) hz rfl
 unfold X6
 exact(Yy (QF (Xt (K:=K) (Z3 (ZC (Xb (r:=(rV Xm)) 0 rfl (λ_ s=>s.l.l.r))) (Xd 2))) (Xt (K:=K) (VB (XF (Xb (r:=(rV Xm)) 0 rfl (λ_ s=>s.l.l.r)) (Xd 0)) (QV (Ev.toB (EvS.ev (Y7 (X9 (r:=Xm) 1 rfl (λ_ s=>s.l.r)) (X9 (r:=Xm) 2 rfl (λ_ s=>s.r))))))))) (YK h_NoLine (GP (Zx (VP (K:=K) (Xb (r:=Xm) 1 rfl (λ_ s=>s.l.r)) (Zx (VP (K:=K) (Xb (r:=Xm) 2 rfl (λ_ s=>s.r)) (Zx Jj))))))) (XN (EvS.ev (EvB.sh (XF (Xb (r:=(rV Xm)) 0 rfl (λ_ s=>s.l.l.r)) (Xd 0))))))
theorem Qh:FnScope ["form","words"] ["form","words"] (Xk YC):=⟨rfl,rfl,rfl,by decide+kernel,rfl,by decide+kernel,by decide+kernel⟩
theorem Qb (D:Def K mg "ends_of_move" YC ["form","words"])(g_read_choice:FnX P w K mg base 1 "read_choice" ["words","one","other"] (BL mg (rV Xm) Xm Xm (oF Xm) X6 K))(g_read_sign:FnX P w K mg base 1 "read_sign" ["word"] (FD mg Xm (oF Xg) Ys K))(Y:Ecs XR K mg)(Wc:Cds P w K mg)(Z:Blt mg):FnX P w K mg base 2 "ends_of_move" ["form","words"] (BO mg Xm (rV Xm) (oF (rPL rMx)) XX K):=by
 refine Ju D Qh (λvs H Q E h=>?_) (λf cdv A outer s H vs Q E hr h=>?_)
 ·obtain⟨v_0,v_1,a_0,a_1,rfl,_⟩:=h;rfl
 obtain⟨v_0,v_1,a_0,a_1,rfl,h_0,h_1,hz⟩:=h
 obtain⟨C_NoLine,h_NoLine,q_NoLine⟩:=Y.adr "NoLine" (.tail _ (.tail _ (.head _)))
 replace q_NoLine:=q_NoLine (by decide)
 obtain⟨p_c,h_c,d_c⟩:=Wc.d0
 have hu:=hu8 hr
 have hu1:=Y2 hr
 refine⟨_,(Xc (Yt (XB ZU (pv 0) Xq (XH _))
   (Xc (XO (YY (Xa (Z2 g_read_choice hr (by decide) UG (Xa (pv 1) (Xa Xq (Xa Xq Xf)))) (Xa (Z2 g_read_sign hr (by decide) UG (Xa (XG (Xp K rfl) (pv 1) Xe (λ_ _=>rfl)) Xf)) Xf))))
   Xh)
   Xh)
  (Xc (Yt (XB ZU (pv 0) Xq (XH _))
   (Xc (XO (YY (Xa (ZB ZU (Z2 g_read_choice hr (by decide) UG (Xa (pv 1) (Xa Xq (Xa Xq Xf)))) Xq (XH _)) (Xa (Z2 g_read_sign hr (by decide) UG (Xa (XG (Xp K rfl) (pv 1) Xe (λ_ _=>rfl)) Xf)) Xf))))
   Xh)
   Xh)
  (Xc (Yt (XB GT (XC (Xz K rfl) rfl Z.b_len PySem.boot_len (Xa (pv 1) Xf)) Xe (XH _))
   (Xc (YQ Qi rfl q_NoLine rfl h_NoLine (Xa Xq Xf))
   Xh)
   Xh)
  (Xc (PS.nox (XO (YY Xf)))
  Xh)))),?_⟩
 refine JQ (S:=(SC.add (SC.add SC.nil K Xm v_0 a_0) K (rV Xm) v_1 a_1)) (σ:=[some v_0,some v_1]) 0 ?_ (SC.i (SC.i SC.t h_0) h_1) hz rfl
 unfold XX
 exact(Yy (Xt (K:=K) (YT (Xb (r:=Xm) 0 rfl (λ_ s=>s.l.r)) (Xo _))) (XN (EvB.flat (Ev.toB (EvS.ev (ZZ (Xj (Jr (EvB.sh (Ev.toB (JJ (Xb (r:=(rV Xm)) 1 rfl (λ_ s=>s.r)) (Xo _) (Xo _))))) (Xj (QR (EvB.sh (Ev.toB (Zn (XF (Xb (r:=(rV Xm)) 1 rfl (λ_ s=>s.r)) (Xd 1)))))) XI))))))) (Yy (Xt (K:=K) (YT (Xb (r:=Xm) 0 rfl (λ_ s=>s.l.r)) (Xo _))) (XN (EvB.flat (Ev.toB (EvS.ev (ZZ (Xj (UT (EvB.sh (YT (Ev.toB (JJ (Xb (r:=(rV Xm)) 1 rfl (λ_ s=>s.r)) (Xo _) (Xo _))) (Xo _)))) (Xj (QR (EvB.sh (Ev.toB (Zn (XF (Xb (r:=(rV Xm)) 1 rfl (λ_ s=>s.r)) (Xd 1)))))) XI))))))) (Yy (Xt (K:=K) (VU (ZC (Xb (r:=(rV Xm)) 1 rfl (λ_ s=>s.r))) (Xd 0))) (YK h_NoLine Vt) (XN (EvB.flat (Ev.toB (EvS.ev (ZZ (r:=rMx) XI))))))))
theorem Yg:FnScope ["line","words","end","ending","numbers"] ["line"] (Xk YI):=⟨rfl,rfl,rfl,by decide+kernel,rfl,by decide+kernel,by decide+kernel⟩
theorem JP (D:Def K mg "read_move" YI ["line"])(g_words_of:Fn P w K mg base 1 "words_of" ["line"] (sp1 Xm (oL (oF Xm)) Yn K))(g_ends_of_move:FnX P w K mg base 2 "ends_of_move" ["form","words"] (BO mg Xm (rV Xm) (oF (rPL rMx)) XX K))(g_read_number:FnX P w K mg base 1 "read_number" ["word"] (FD mg Xm (oF Xg) Xw K))(Y:Ecs XR K mg)(Wc:Cds P w K mg)(Z:Blt mg):FnX P w K mg base 3 "read_move" ["line"] (FD mg Xm (oF (rPL rMx)) Ya K):=by
 refine Ju D Yg (λvs H Q E h=>?_) (λf cdv A outer s H vs Q E hr h=>?_)
 ·obtain⟨v_0,a_0,rfl,_⟩:=h;rfl
 obtain⟨v_0,a_0,rfl,h_0,hz⟩:=h
 obtain⟨C_NoLine,h_NoLine,q_NoLine⟩:=Y.adr "NoLine" (.tail _ (.tail _ (.head _)))
 replace q_NoLine:=q_NoLine (by decide)
 obtain⟨p_c,h_c,d_c⟩:=Wc.d0
 have hu:=hu8 hr
 have hu1:=Y2 hr
 refine⟨_,(Xc (PS.nox (XE (i:=1) Yg.nd rfl (Or.inl rfl) (YE g_words_of hr (by decide) (Xa (pv 0) Xf))))
  (Xc (Yt (PW.pt (Uk (XB ZU (XC (Xz K rfl) rfl Z.b_len PySem.boot_len (Xa (pv 1) Xf)) Xe (XH _)) (QL (CK (UC d_c rfl h_c (XG (Xp K rfl) (pv 1) Xe (λ_ _=>rfl)))))))
   (Xc (YQ Qi rfl q_NoLine rfl h_NoLine (Xa Xq Xf))
   Xh)
   Xh)
  (Xc (PS.nox (XE (i:=2) Yg.nd rfl (Or.inl rfl) (Xy Yz (U0 d_c rfl h_c (XG (Xp K rfl) (pv 1) Xe (λ_ _=>rfl)) (λ_ _=>rfl)) Xe)))
  (Xc (XE (i:=3) Yg.nd rfl (Or.inl rfl) (Z2 g_ends_of_move hr (by decide) UG (Xa (XG (Xp K rfl) (pv 1) Xe (λ_ _=>rfl)) (Xa (Zv (Jq K rfl) (pv 1) (Zi (pv 2)) Ve) Xf))))
  (Xc (Gm (sc:=(Xk YI)) (N0:=["line","words","end","ending","numbers"]) (tns:=["word"]) (caps:=[]) 4 Bz rfl Yg.nd rfl rfl (QW (K:=K) rfl (Zv (Jq K rfl) (pv 1) (Zi Xe) (Zi (pv 2)))) (Qt (by decide)) (λcl C s H ex E hp=>⟨Yv (i:=0) (show List.Nodup (["word"]:List Str) by decide+kernel) rfl (Or.inl rfl),Jd,(Z2 g_read_number hr (by decide) hp (Xa (pv 0) Xf))⟩))
  (Xc (Yt (XB F8 (XC (Xz K rfl) rfl Z.b_len PySem.boot_len (Xa (pv 1) Xf)) (pv 2) (XH _))
   (Xc (YQ Qi rfl q_NoLine rfl h_NoLine (Xa Xq Xf))
   Xh)
   Xh)
  (Xc (PS.nox (XO (Xy (GM K rfl) (Xy (Gi K rfl) (YY (Xa (XG (Xp K rfl) (pv 1) Xe (λ_ _=>rfl)) Xf)) (YG (Zc K rfl) rfl Z.b_tuple PyProof.Rows.boot_tuple (Xa (pv 4) Xf))) (pv 3))))
  Xh))))))),?_⟩
 refine JQ (S:=(SC.add SC.nil K Xm v_0 a_0)) (σ:=[some v_0,none,none,none,none]) 0 ?_ (SC.i SC.t h_0) hz rfl
 unfold Ya
 exact(XL (K:=K) (r:=(rV Xm)) 1 (Ev.sh (Yw (Xb (r:=Xm) 0 rfl (λ_ s=>s.r)))) λa1 v2=>(Yy (QF (Xt (K:=K) (YT (ZC (Xb (r:=(rV Xm)) 1 rfl (λ_ s=>s.r))) (Xd 0))) (Qw (K:=K) (Go (XF (Xb (r:=(rV Xm)) 1 rfl (λ_ s=>s.r)) (Xd 0))))) (YK h_NoLine Vt) (XL (K:=K) (r:=Xg) 2 (EvB.sh (X5 (VN (XF (Xb (r:=(rV Xm)) 1 rfl (λ_ s=>s.r)) (Xd 0))) (Xd 1))) λa13 v14=>(XL (K:=K) (r:=(rPL rMx)) 3 (EvB.sh (Ev.toB (Kb (XF (Xb (r:=(rV Xm)) 1 rfl (λ_ s=>s.l.r)) (Xd 0)) (Ev.toB (VE (EvS.ls (X9 (r:=(rV Xm)) 1 rfl (λ_ s=>s.l.r))) (YJ (K:=K) (Xb (r:=Xg) 2 rfl (λ_ s=>s.r))) Q3))))) λa20 v21=>(XL (K:=K) (r:=(rV Xg)) 4 (Ev.sh (Jc (λ_=>tg1 0) (Z5 (Ev.sh (VE (EvS.ls (X9 (r:=(rV Xm)) 1 rfl (λ_ s=>s.l.l.r))) (YJ (K:=K) (Xd 1)) (YJ (K:=K) (Xb (r:=Xg) 2 rfl (λ_ s=>s.l.r)))))) (λC37 a38 v39=>(Zn (Xb (r:=Xm) 0 rfl (λ_ s=>s.r)))))) λa30 v31=>(Yy (Xt (K:=K) (KU (ZC (Xb (r:=(rV Xm)) 1 rfl (λ_ s=>s.l.l.l.r))) (Xb (r:=Xg) 2 rfl (λ_ s=>s.l.l.r)))) (YK h_NoLine Vt) (XN (EvB.flat (Kc (Gn (Ev.toB (EvS.ev (ZZ (Xj (Jr (EvB.sh (XF (Xb (r:=(rV Xm)) 1 rfl (λ_ s=>s.l.l.l.r)) (Xd 0)))) XI)))) (GH (QC (Xb (r:=(rV Xg)) 4 rfl (λ_ s=>s.r))))) (Xb (r:=(rPL rMx)) 3 rfl (λ_ s=>s.l.r)))))))))))
theorem QU:FnScope ["_law_script","_law_place","_law_seed","_law_cell_here"] ["_law_script","_law_place"] (Xk UB):=⟨rfl,rfl,rfl,by decide+kernel,rfl,by decide+kernel,by decide+kernel⟩
theorem Du (D:Def K mg "_law_cell" UB ["_law_script","_law_place"])(Y:Ecs XR K mg)(Wc:Cds P w K mg)(Z:Blt mg):Fn P w K mg base 1 "_law_cell" ["_law_script","_law_place"] (sp2 (rL Xg) Xg (oF Xg) Qa K):=by
 refine Qq D QU (λvs H Q E h=>?_) (λf cdv A outer s H vs Q E hr h=>?_)
 ·obtain⟨v_0,v_1,a_0,a_1,b,rfl,_⟩:=h;rfl
 obtain⟨v_0,v_1,a_0,a_1,b,rfl,h_0,h_1,hm,q⟩:=h
 have hu:=hu8 hr
 have hu1:=Y2 hr
 refine⟨_,(Xc (Yt (XB F8 (pv 1) (XC (Xz K rfl) rfl Z.b_len PySem.boot_len (Xa (pv 0) Xf)) (XH _))
   (Xc (XO (XG (Xp K rfl) (pv 0) (pv 1) (λ_ _=>rfl)))
   Xh)
   Xh)
  (Xc (XE (i:=2) QU.nd rfl (Or.inl rfl) Xe)
  (Xc (Ky PassesOwn.never rfl (QW (K:=K) rfl (Zv (Jq K rfl) (pv 0) Ve (Zi Xe))) (Yv (i:=3) QU.nd rfl (Or.inl rfl))
   (Xc (XE (i:=2) QU.nd rfl (Or.inl rfl) (Xy Y1 (Xy Yz (Xy Yz (Xy YU (pv 2) Xe) (Xy Y1 (pv 3) Xe)) Xe) Xe))
   Xh))
  (Xc (XO (Xy Y1 (Xy Yz (pv 2) (Xy YU Xe (pv 1))) Xe))
  Xh)))),?_⟩
 refine ZW (S:=(SC.add (SC.add SC.nil K (rL Xg) v_0 a_0) K Xg v_1 a_1)) (σ:=[some v_0,some v_1,none,none]) 0 ?_ (SC.i (SC.i SC.t h_0) h_1) hm q rfl
 unfold Qa
 exact(Yy (Xt (K:=K) (KU (Xb (r:=Xg) 1 rfl (λ_ s=>s.r)) (Gc (Xb (r:=(rL Xg)) 0 rfl (λ_ s=>s.l.r))))) (XN (EvS.ev (EvB.sh (Dk (Xb (r:=(rL Xg)) 0 rfl (λ_ s=>s.l.r)) (Xb (r:=Xg) 1 rfl (λ_ s=>s.r)))))) (XL (K:=K) (r:=Xg) 2 (EvB.sh (Xd 5)) λa7 v8=>(Fa (K:=K) (J:=({oo:=λx13=>[],ss:=λx13=>[some v_0,some v_1,some x13.2,x13.1],sc:=λg14 x13=>(SC.add (SC.add (SC.add SC.nil K (rL Xg) v_0 a_0) K Xg v_1 a_1) K Xg x13.2 g14)}:Jn (Int) (Option V×V))) (λ_=>tg1 3) ((none),v8) (a7) (Z5 (Ev.sh (K5 (Xb (r:=(rL Xg)) 0 rfl (λ_ s=>s.l.l.r)) Q3 (YJ (K:=K) (Xd 63))))) rfl rfl (λ_ s=>(SC.i (SC.i (SC.i SC.t s.l.l.r) s.l.r) s.r)) (λg15 x16 a17 v18=>(XL (K:=K) (r:=Xg) 2 (EvB.sh (Yo (X5 (X5 (Yl (Xb (r:=Xg) 2 rfl (λ_ s=>s.l.r)) (Xd 48271)) (Yo (Xb (r:=Xg) 3 rfl (λ_ s=>s.r)) (Xd 1000003))) (Xd 1)) (Xd 2147483647))) λa19 v20=>(Yf (J:=_) ((some v18),v20) (a19) rfl rfl (λ_ s=>(SC.i (SC.i (SC.i SC.t s.l.l.l.l.r) s.l.l.l.r) s.r))))) λg31 x32=>(XN (EvS.ev (EvB.sh (Yo (X5 (Xb (r:=Xg) 2 rfl (λ_ s=>s.r)) (Yl (Xd 7919) (Xb (r:=Xg) 1 rfl (λ_ s=>s.l.r)))) (Xd 1000003))))))))
theorem KS:FnScope ["_law_cell_here","_law_k","_law_one","_law_two"] ["_law_cell_here","_law_k"] (Xk DE):=⟨rfl,rfl,rfl,by decide+kernel,rfl,by decide+kernel,by decide+kernel⟩
theorem Ba (D:Def K mg "_law_mix" DE ["_law_cell_here","_law_k"])(Y:Ecs XR K mg)(Wc:Cds P w K mg)(Z:Blt mg):Fn P w K mg base 1 "_law_mix" ["_law_cell_here","_law_k"] (sp2 Xg Xg (oF Xg) Vp K):=by
 refine Qq D KS (λvs H Q E h=>?_) (λf cdv A outer s H vs Q E hr h=>?_)
 ·obtain⟨v_0,v_1,a_0,a_1,b,rfl,_⟩:=h;rfl
 obtain⟨v_0,v_1,a_0,a_1,b,rfl,h_0,h_1,hm,q⟩:=h
 have hu:=hu8 hr
 have hu1:=Y2 hr
 refine⟨_,(Xc (XE (i:=2) KS.nd rfl (Or.inl rfl) (Xy Y1 (Xy ZN (Xy Yz (Xy Yz (Xy Y1 (pv 0) Xe) (Xy YU Xe (pv 1))) Xe) Xe) Xe))
  (Xc (XE (i:=3) KS.nd rfl (Or.inl rfl) (Xy Y1 (Xy Yz (Xy Yz (Xy YU (pv 2) Xe) (Xy YU (Xy YU Xe (pv 1)) (pv 1))) Xe) Xe))
  (Xc (XO (Xy VJ (pv 3) Xe))
  Xh))),?_⟩
 refine ZW (S:=(SC.add (SC.add SC.nil K Xg v_0 a_0) K Xg v_1 a_1)) (σ:=[some v_0,some v_1,none,none]) 0 ?_ (SC.i (SC.i SC.t h_0) h_1) hm q rfl
 unfold Vp
 exact(XL (K:=K) (r:=Xg) 2 (EvB.sh (Yo (YW (X5 (X5 (Yo (Xb (r:=Xg) 0 rfl (λ_ s=>s.l.r)) (Xd 2147483629)) (Yl (Xd 1013) (Xb (r:=Xg) 1 rfl (λ_ s=>s.r)))) (Xd 7919)) (Xd 3)) (Xd 2147483647))) λa1 v2=>(XL (K:=K) (r:=Xg) 3 (EvB.sh (Yo (X5 (X5 (Yl (Xb (r:=Xg) 2 rfl (λ_ s=>s.r)) (Xd 40699)) (Yl (Yl (Xd 3793) (Xb (r:=Xg) 1 rfl (λ_ s=>s.l.r))) (Xb (r:=Xg) 1 rfl (λ_ s=>s.l.r)))) (Xd 11)) (Xd 2147483399))) λa15 v16=>(XN (EvS.ev (EvB.sh (U2 (Xb (r:=Xg) 3 rfl (λ_ s=>s.r)) (Xd 101)))))))
theorem Z4:FnScope ["_law_script","_law_place","_law_sizes","_law_cell_here","_law_left","_law_some","_law_k","_law_other"] ["_law_script","_law_place","_law_sizes"] (Xk F7):=⟨rfl,rfl,rfl,by decide+kernel,rfl,by decide+kernel,by decide+kernel⟩
theorem CS (D:Def K mg "_law_row" F7 ["_law_script","_law_place","_law_sizes"])(g_cell:Fn P w K mg base 1 "_law_cell" ["_law_script","_law_place"] (sp2 (rL Xg) Xg (oF Xg) Qa K))(g_mix:Fn P w K mg base 1 "_law_mix" ["_law_cell_here","_law_k"] (sp2 Xg Xg (oF Xg) Vp K))(Y:Ecs XR K mg)(Wc:Cds P w K mg)(Z:Blt mg):Fn P w K mg base 2 "_law_row" ["_law_script","_law_place","_law_sizes"] (sp3 (rL Xg) Xg (rV Xg) (oL (oF Xg)) Qo K):=by
 refine Qq D Z4 (λvs H Q E h=>?_) (λf cdv A outer s H vs Q E hr h=>?_)
 ·obtain⟨v_0,v_1,v_2,a_0,a_1,a_2,b,rfl,_⟩:=h;rfl
 obtain⟨v_0,v_1,v_2,a_0,a_1,a_2,b,rfl,h_0,h_1,h_2,hm,q⟩:=h
 have hu:=hu8 hr
 have hu1:=Y2 hr
 refine⟨_,(Xc (XE (i:=3) Z4.nd rfl (Or.inl rfl) (YE g_cell hr (by decide) (Xa (pv 0) (Xa (pv 1) Xf))))
  (Xc (XE (i:=4) Z4.nd rfl (Or.inl rfl) (pv 3))
  (Xc (XE (i:=5) Z4.nd rfl (Or.inl rfl) (X3 Xf))
  (Xc (Ky PassesOwn.never rfl (Zq rfl Z.b_range (Xa (XC (Xz K rfl) rfl Z.b_len PySem.boot_len (Xa (pv 2) Xf)) Xf)) (Yv (i:=6) Z4.nd rfl (Or.inl rfl))
   (Xc (Yt (XB F8 (pv 3) (Xy ZN Xe Xe) (XH _))
    (Xc (Yp (ZS PySem.F.plainAttrs_list PySem.F.slot_list_append PySem.F.type_list_append X0 (pv 5) (Xa (Xy Y1 (YE g_mix hr (by decide) (Xa (pv 3) (Xa (pv 6) Xf))) (XG (Xp K rfl) (pv 2) (pv 6) (λ_ _=>rfl))) Xf)))
    Xh)
    (Xc (Yt (XB GT (pv 4) Xe (XH _))
     (Xc (Yp (ZS PySem.F.plainAttrs_list PySem.F.slot_list_append PySem.F.type_list_append X0 (pv 5) (Xa (Xy Y1 (pv 4) (XG (Xp K rfl) (pv 2) (pv 6) (λ_ _=>rfl))) Xf)))
     (Xc (XE (i:=4) Z4.nd rfl (Or.inl rfl) (Xy VJ (pv 4) (XG (Xp K rfl) (pv 2) (pv 6) (λ_ _=>rfl))))
     Xh))
     (Xc (XE (i:=7) Z4.nd rfl (Or.inl rfl) (YE g_cell hr (by decide) (Xa (pv 0) (Xa (Xy Y1 (Xy Yz (Xy Yz (pv 1) Xe) (pv 6)) Xe) Xf))))
     (Xc (Yp (ZS PySem.F.plainAttrs_list PySem.F.slot_list_append PySem.F.type_list_append X0 (pv 5) (Xa (Xy Y1 (YE g_mix hr (by decide) (Xa (pv 7) (Xa (pv 6) Xf))) (XG (Xp K rfl) (pv 2) (pv 6) (λ_ _=>rfl))) Xf)))
     Xh)))
    Xh))
   Xh))
  (Xc (XO (pv 5))
  Xh))))),?_⟩
 refine ZW (S:=(SC.add (SC.add (SC.add SC.nil K (rL Xg) v_0 a_0) K Xg v_1 a_1) K (rV Xg) v_2 a_2)) (σ:=[some v_0,some v_1,some v_2,none,none,none,none,none]) 1 ?_ (SC.i (SC.i (SC.i SC.t h_0) h_1) h_2) hm q rfl
 unfold Qo
 exact(XL (K:=K) (r:=Xg) 3 (EvB.sh (Ev.toB (Yx (Xb (r:=(rL Xg)) 0 rfl (λ_ s=>s.l.l.r)) (Xb (r:=Xg) 1 rfl (λ_ s=>s.l.r))))) λa1 v2=>(XL (K:=K) (r:=Xg) 4 (X9 (r:=Xg) 3 rfl (λ_ s=>s.r)) λa6 v7=>(Q2 (K:=K) (o:=(oL (oF Xg))) 5 0 (CF (o:=(oF Xg))) (Nat.le_of_ble_eq_true rfl) λa8 v9 C10=>(Fa (K:=K) (J:=({oo:=λx13=>[x13.2.2.2.2],ss:=λx13=>[some v_0,some v_1,some v_2,some v2,some x13.2.2.1,some x13.2.1,x13.1,x13.2.2.2.1],sc:=λg14 x13=>(SC.add (SC.addO (SC.add (SC.add (SC.add (SC.add SC.nil K (rL Xg) v_0 a_0) K Xg v_1 a_1) K (rV Xg) v_2 a_2) K Xg v2 a1) K (oL (oF Xg)) x13.2.1 g14.1 x13.2.2.2.2) K Xg x13.2.2.1 g14.2)}:Jn ((List Int)×Int) (Option V×V×V×Option V×List Xs))) (λ_=>tg1 6) ((none),v9,v7,(none),C10) (a8,a6) (YN (ZC (Xb (r:=(rV Xg)) 2 rfl (λ_ s=>s.l.l.l.r)))) rfl rfl (λ_ s=>(SC.i (SC.i (SC.i (SC.i (SC.i (SC.i SC.t s.l.l.l.l.l.r) s.l.l.l.l.r) s.l.l.l.r) s.l.l.r) s.r) s.l.r)) (λg15 x16 a17 v18=>(Zk (J:=({oo:=λx24=>[x24.2.2.2],ss:=λx24=>[some v_0,some v_1,some v_2,some v2,some x24.2.1,some x24.1,some v18,x24.2.2.1],sc:=λg25 x24=>(SC.add (SC.addO (SC.add (SC.add (SC.add (SC.add (SC.add SC.nil K (rL Xg) v_0 a_0) K Xg v_1 a_1) K (rV Xg) v_2 a_2) K Xg v2 a1) K Xg v18 a17) K (oL (oF Xg)) x24.1 g25.1 x24.2.2.2) K Xg x24.2.1 g25.2)}:Jn ((List Int)×Int) (V×V×Option V×List Xs))) (Qk (Fd:=FNd ({oo:=λx24=>[x24.2.2.2],ss:=λx24=>[some v_0,some v_1,some v_2,some v2,some x24.2.1,some x24.1,some v18,x24.2.2.1],sc:=λg25 x24=>(SC.add (SC.addO (SC.add (SC.add (SC.add (SC.add (SC.add SC.nil K (rL Xg) v_0 a_0) K Xg v_1 a_1) K (rV Xg) v_2 a_2) K Xg v2 a1) K Xg v18 a17) K (oL (oF Xg)) x24.1 g25.1 x24.2.2.2) K Xg x24.2.1 g25.2)}:Jn ((List Int)×Int) (V×V×Option V×List Xs))) (Xt (K:=K) (KU (Xb (r:=Xg) 3 rfl (λ_ s=>s.l.l.l.r)) (YW (Xd 10) (Xd 18)))) (Zo (K:=K) (o:=(oF Xg)) (f:=λa35=>(Rs.ok (a35,g15.2))) 5 0 rfl rfl rfl (λ_ s=>s.l.l.r) (EvS.ev (EvB.sh (Yo (Ev.toB (Yx (Xb (r:=Xg) 3 rfl (λ_ s=>s.l.l.l.r)) (Xb (r:=Xg) 6 rfl (λ_ s=>s.r)))) (XF (Xb (r:=(rV Xg)) 2 rfl (λ_ s=>s.l.l.l.l.r)) (Xb (r:=Xg) 6 rfl (λ_ s=>s.r)))))) λa33 C34=>(Yf (J:=_) (x16.2.1,x16.2.2.1,(x16.2.2.2.1),C34) ((g15.1++[a33]),g15.2) rfl rfl (λ_ s=>(SC.i (SC.i (SC.i (SC.i (SC.i (SC.i (SC.i SC.t s.l.l.l.l.l.l.l.r) s.l.l.l.l.l.l.r) s.l.l.l.l.l.r) s.l.l.l.l.r) s.l.r) s.r) s.l.l.r)))) (Zk (J:=({oo:=λx39=>[x39.2.2.2],ss:=λx39=>[some v_0,some v_1,some v_2,some v2,some x39.1,some x39.2.2.1,some v18,x39.2.1],sc:=λg40 x39=>(SC.addO (SC.add (SC.add (SC.add (SC.add (SC.add (SC.add SC.nil K (rL Xg) v_0 a_0) K Xg v_1 a_1) K (rV Xg) v_2 a_2) K Xg v2 a1) K Xg v18 a17) K Xg x39.1 g40.1) K (oL (oF Xg)) x39.2.2.1 g40.2 x39.2.2.2)}:Jn (Int×(List Int)) (V×Option V×V×List Xs))) (Qk (Fd:=FNd ({oo:=λx39=>[x39.2.2.2],ss:=λx39=>[some v_0,some v_1,some v_2,some v2,some x39.1,some x39.2.2.1,some v18,x39.2.1],sc:=λg40 x39=>(SC.addO (SC.add (SC.add (SC.add (SC.add (SC.add (SC.add SC.nil K (rL Xg) v_0 a_0) K Xg v_1 a_1) K (rV Xg) v_2 a_2) K Xg v2 a1) K Xg v18 a17) K Xg x39.1 g40.1) K (oL (oF Xg)) x39.2.2.1 g40.2 x39.2.2.2)}:Jn (Int×(List Int)) (V×Option V×V×List Xs))) (Xt (K:=K) (VU (Xb (r:=Xg) 4 rfl (λ_ s=>s.l.r)) (Xd 0))) (Zo (K:=K) (o:=(oF Xg)) (f:=λa47=>(Rs.bind (Rs.bind (Rs.ok g15.2) λx52=>(Rs.bind (Rs.bind (Rs.ok a_2) λx50=>(Rs.bind (Rs.ok a17) λx51=>(atR x50 x51))) λx53=>(Bd x52 x53))) λa48=>(Rs.ok (a48,a47)))) 5 0 rfl rfl rfl (λ_ s=>s.l.l.r) (EvS.ev (EvB.sh (Yo (Xb (r:=Xg) 4 rfl (λ_ s=>s.l.r)) (XF (Xb (r:=(rV Xg)) 2 rfl (λ_ s=>s.l.l.l.l.r)) (Xb (r:=Xg) 6 rfl (λ_ s=>s.r)))))) λa45 C46=>(XL (K:=K) (r:=Xg) 4 (EvB.sh (U2 (Xb (r:=Xg) 4 rfl (λ_ s=>s.l.l.r)) (XF (Xb (r:=(rV Xg)) 2 rfl (λ_ s=>s.l.l.l.l.l.r)) (Xb (r:=Xg) 6 rfl (λ_ s=>s.l.r))))) λa48 v49=>(Yf (J:=_) (v49,(x16.2.2.2.1),x16.2.1,C46) (a48,(g15.1++[a45])) rfl rfl (λ_ s=>(SC.i (SC.i (SC.i (SC.i (SC.i (SC.i (SC.i SC.t s.l.l.l.l.l.l.l.l.r) s.l.l.l.l.l.l.l.r) s.l.l.l.l.l.l.r) s.l.l.l.l.l.r) s.l.l.r) s.r) s.l.r))))) (XL (K:=K) (r:=Xg) 7 (EvB.sh (Ev.toB (Yx (Xb (r:=(rL Xg)) 0 rfl (λ_ s=>s.l.l.l.l.l.l.r)) (Yo (X5 (X5 (Xb (r:=Xg) 1 rfl (λ_ s=>s.l.l.l.l.l.r)) (Xd 1)) (Xb (r:=Xg) 6 rfl (λ_ s=>s.r))) (Xd 63))))) λa54 v55=>(Zo (K:=K) (o:=(oF Xg)) (f:=λa74=>(Rs.ok (g15.2,a74))) 5 0 rfl rfl rfl (λ_ s=>s.l.l.l.r) (EvS.ev (EvB.sh (Yo (Ev.toB (Yx (Xb (r:=Xg) 7 rfl (λ_ s=>s.r)) (Xb (r:=Xg) 6 rfl (λ_ s=>s.l.r)))) (XF (Xb (r:=(rV Xg)) 2 rfl (λ_ s=>s.l.l.l.l.l.r)) (Xb (r:=Xg) 6 rfl (λ_ s=>s.l.r)))))) λa72 C73=>(Yf (J:=_) (x16.2.2.1,(some v55),x16.2.1,C73) (g15.2,(g15.1++[a72])) rfl rfl (λ_ s=>(SC.i (SC.i (SC.i (SC.i (SC.i (SC.i (SC.i SC.t s.l.l.l.l.l.l.l.l.r) s.l.l.l.l.l.l.l.r) s.l.l.l.l.l.l.r) s.l.l.l.l.l.r) s.l.l.r) s.l.l.l.r) s.r)))))) λg76 x75=>(Yf (J:=_) (x75.2.2.1,x75.1,(x75.2.1),x75.2.2.2) (g76.2,g76.1) rfl rfl (λ_ s=>(SC.i (SC.i (SC.i (SC.i (SC.i (SC.i (SC.i SC.t s.l.l.l.l.l.l.r) s.l.l.l.l.l.r) s.l.l.l.l.r) s.l.l.l.r) s.l.l.r) s.r) s.l.r))))) λg78 x77=>(Yf (J:=_) ((some v18),x77.1,x77.2.1,(x77.2.2.1),x77.2.2.2) (g78.1,g78.2) rfl rfl (λ_ s=>(SC.i (SC.i (SC.i (SC.i (SC.i (SC.i SC.t s.l.l.l.l.l.l.r) s.l.l.l.l.l.r) s.l.l.l.l.r) s.l.l.l.r) s.l.r) s.r))))) λg79 x80=>(XN (DH (o:=(oL (oF Xg))) 5 0 rfl rfl (λ_ s=>s.l.r)))))))
theorem Va:FnScope ["_law_line","_law_found","e"] ["_law_line"] (Xk UP):=⟨rfl,rfl,rfl,by decide+kernel,rfl,by decide+kernel,by decide+kernel⟩
theorem Dx (D:Def K mg "_law_read" UP ["_law_line"])(g_read_move:FnX P w K mg base 3 "read_move" ["line"] (FD mg Xm (oF (rPL rMx)) Ya K))(Y:Ecs XR K mg)(Wc:Cds P w K mg)(Z:Blt mg):Fn P w K mg base 4 "_law_read" ["_law_line"] (sp1 Xm (oF (rEi (rP2 Xm Xx) (rP2 Xm (rPL rMx)))) QO K):=by
  refine Qq D Va (λvs H Q E h=>?_) (λf cdv A outer s H vs Q E hr h=>?_)
  . obtain⟨v_0,a_0,b,rfl,_⟩:=h;rfl
  obtain⟨v_0,a_0,b,rfl,h_0,hm,q⟩:=h
  obtain⟨C_PlaitError,h_PlaitError,q_PlaitError⟩:=Y.adr "PlaitError" (.head _)
  obtain⟨C_NoMove,h_NoMove,q_NoMove⟩:=Y.adr "NoMove" (.tail _ (.head _))
  obtain⟨C_NoLine,h_NoLine,q_NoLine⟩:=Y.adr "NoLine" (.tail _ (.tail _ (.head _)))
  have hu:=hu8 hr
  have hu1:=Y2 hr
  refine⟨_,(Xc (CP rfl rfl rfl rfl h_PlaitError Va.nd (i:=2) rfl rfl rfl (λpn xe E hp=>(Xc (XE (i:=1) Va.nd rfl (Or.inl rfl) (Z2 g_read_move hr (by decide) hp (Xa (pv 0) Xf)))
      Xh))
     (λpn a o C hm hc=>(Xc (XO (YY (Xa Xq (Xa (Fh (XC (Ub rfl hm hc rfl) rfl Z.b_isinstance PyProof.Rows.boot_isinstance (Xa (pv 2) (Xa (Vv (v:=V.ref C_NoLine) rfl h_NoLine rfl) Xf))) (GV (C5 (XC (Ub rfl hm hc rfl) rfl Z.b_isinstance PyProof.Rows.boot_isinstance (Xa (pv 2) (Xa (Vv (v:=V.ref C_NoMove) rfl h_NoMove rfl) Xf)))))) Xf))))
      Xh)))
    (Xc (XO (YY (Xa Xq (Xa (pv 1) Xf))))
    Xh)),?_⟩
  refine ZW (S:=(SC.add SC.nil K Xm v_0 a_0)) (σ:=[some v_0,none,none]) 0 ?_ (SC.i SC.t h_0) hm q rfl
  unfold QO
  exact(DC (r:=(rPL rMx)) (K:=K) (d:="PlaitError") (N:=3) (i:=2) Y (.head _) h_PlaitError 1 (λ_=>(EvB.sh (Ev.toB (Zn (Xb (r:=Xm) 0 rfl (λ_ s=>s.r)))))) (λa6 v7=>(XN (DL (EvS.ev (Y7 (EvB.sh (Xo _)) (X9 (r:=(rPL rMx)) 1 rfl (λ_ s=>s.r))))))) (λx1 hx C a hC=>(XN (Df (EvS.ev (Y7 (EvB.sh (Xo _)) (EvB.sh (VQ (Kw 2 rfl (Y.att _ hx C hC) (Y.kit _ hx "NoLine" (.tail _ (.tail _ (.head _))) C C_NoLine hC h_NoLine)) (Gk (Kw 2 rfl (Y.att _ hx C hC) (Y.kit _ hx "NoMove" (.tail _ (.head _)) C C_NoMove hC h_NoMove)))))))))))
theorem JB:FnScope ["_law_some","_law_k","_law_high"] ["_law_some","_law_k"] (Xk Jf):=⟨rfl,rfl,rfl,by decide+kernel,rfl,by decide+kernel,by decide+kernel⟩
theorem KN (D:Def K mg "_law_number" Jf ["_law_some","_law_k"])(Y:Ecs XR K mg)(Wc:Cds P w K mg)(Z:Blt mg):Fn P w K mg base 1 "_law_number" ["_law_some","_law_k"] (sp2 (rV Xg) Xg (oF Xg) YA K):=by
 refine Qq D JB (λvs H Q E h=>?_) (λf cdv A outer s H vs Q E hr h=>?_)
 ·obtain⟨v_0,v_1,a_0,a_1,b,rfl,_⟩:=h;rfl
 obtain⟨v_0,v_1,a_0,a_1,b,rfl,h_0,h_1,hm,q⟩:=h
 have hu:=hu8 hr
 have hu1:=Y2 hr
 refine⟨_,(Xc (XE (i:=2) JB.nd rfl (Or.inl rfl) (Xy Y1 (XG (Xp K rfl) (pv 0) (Xy Yz (Xy YU Xe (pv 1)) Xe) (λ_ _=>rfl)) (XG (Xp K rfl) (X3 (Xa Xe (Xa (Xy ZN Xe Xe) (Xa (Xy ZN Xe Xe) (Xa (Xy ZN Xe Xe) Xf))))) (XG (Xp K rfl) (pv 0) (Xy Yz (Xy YU Xe (pv 1)) Xe) (λ_ _=>rfl)) (λ_ _=>rfl))))
  (Xc (XO (Xy YU (pv 2) (Xy Fq (Xy YU Xe (XG (Xp K rfl) (pv 0) (Xy Yz (Xy YU Xe (pv 1)) Xe) (λ_ _=>rfl))) Xe)))
  Xh)),?_⟩
 refine ZW (S:=(SC.add (SC.add SC.nil K (rV Xg) v_0 a_0) K Xg v_1 a_1)) (σ:=[some v_0,some v_1,none]) 0 ?_ (SC.i (SC.i SC.t h_0) h_1) hm q rfl
 unfold YA
 exact(XL (K:=K) (r:=Xg) 2 (EvB.sh (Yo (XF (Xb (r:=(rV Xg)) 0 rfl (λ_ s=>s.l.r)) (X5 (Yl (Xd 3) (Xb (r:=Xg) 1 rfl (λ_ s=>s.r))) (Xd 3))) (XF (Ev.toB (Ye (Xj (EvB.sh (Xd 10)) (Xj (EvB.sh (YW (Xd 10) (Xd 6))) (Xj (EvB.sh (YW (Xd 10) (Xd 18))) (Xj (EvB.sh (YW (Xd 10) (Xd 59))) XI)))))) (XF (Xb (r:=(rV Xg)) 0 rfl (λ_ s=>s.l.r)) (X5 (Yl (Xd 3) (Xb (r:=Xg) 1 rfl (λ_ s=>s.r))) (Xd 1)))))) λa1 v2=>(XN (EvS.ev (EvB.sh (Yl (Xb (r:=Xg) 2 rfl (λ_ s=>s.r)) (UU (Yl (Xd 2) (XF (Xb (r:=(rV Xg)) 0 rfl (λ_ s=>s.l.l.r)) (X5 (Yl (Xd 3) (Xb (r:=Xg) 1 rfl (λ_ s=>s.l.r))) (Xd 2)))) (Xd 1)))))))
theorem Ze:FnScope ["_law_some","_law_more","_law_form","_law_count","_law_parts","_law_words","_law_long","_law_line"] ["_law_some","_law_more"] (Xk QN):=⟨rfl,rfl,rfl,by decide+kernel,rfl,by decide+kernel,by decide+kernel⟩
theorem Dr (D:Def K mg "_law_made" QN ["_law_some","_law_more"])(g_number:Fn P w K mg base 1 "_law_number" ["_law_some","_law_k"] (sp2 (rV Xg) Xg (oF Xg) YA K))(Y:Ecs XR K mg)(Wc:Cds P w K mg)(Z:Blt mg):Fn P w K mg base 2 "_law_made" ["_law_some","_law_more"] (sp2 (rV Xg) (rV Xg) (oF (rP3 (rPL rMx) Xm Xx)) Qe K):=by
 refine Qq D Ze (λvs H Q E h=>?_) (λf cdv A outer s H vs Q E hr h=>?_)
 ·obtain⟨v_0,v_1,a_0,a_1,b,rfl,_⟩:=h;rfl
 obtain⟨v_0,v_1,a_0,a_1,b,rfl,h_0,h_1,hm,q⟩:=h
 have hu:=hu8 hr
 have hu1:=Y2 hr
 refine⟨_,(Xc (XE (i:=2) Ze.nd rfl (Or.inl rfl) (XG (Xp K rfl) (X3 (Xa Xq (Xa Xq (Xa Xq (Xa Xq (Xa Xq (Xa Xq Xf))))))) (XG (Xp K rfl) (pv 1) Xe (λ_ _=>rfl)) (λ_ _=>rfl)))
  (Xc (XE (i:=3) Ze.nd rfl (Or.inl rfl) (XG (Xp K rfl) (X3 (Xa Xe (Xa Xe (Xa Xe (Xa Xe (Xa Xe (Xa Xe Xf))))))) (XG (Xp K rfl) (pv 1) Xe (λ_ _=>rfl)) (λ_ _=>rfl)))
  (Xc (XE (i:=4) Ze.nd rfl (Or.inr rfl) (VZ (sc:=(Xk QN)) (N0:=["_law_some","_law_more","_law_form","_law_count","_law_parts","_law_words","_law_long","_law_line"]) (tns:=["_law_k"]) (caps:=[(0,"_law_some")]) rfl (Zq rfl Z.b_range (Xa (pv 3) Xf)) (Qt (by decide)) (λcl C s H ex E=>⟨Yv (i:=0) (show List.Nodup (["_law_k","_law_some"]:List Str) by decide+kernel) rfl (Or.inl rfl),Jd,(YE g_number hr (by decide) (Xa (pv 1) (Xa (pv 0) Xf)))⟩)))
  (Xc (UJ 5 (Xk QN) ["_law_some","_law_more","_law_form","_law_count","_law_parts","_law_words","_law_long","_law_line"] ["_law_one"] [] rfl Ze.nd rfl rfl (QW (K:=K) rfl (pv 4)) (Qt (by decide)) (λcl C s H ex E=>⟨Yv (i:=0) (show List.Nodup (["_law_one"]:List Str) by decide+kernel) rfl (Or.inl rfl),Jd,(YG YV rfl Z.b_str PyProof.Rows.boot_str (Xa (pv 0) Xf))⟩))
  (Xc (Yt (XB ZU (pv 2) Xq (XH _))
   (Xc (Yp (ZS PySem.F.plainAttrs_list PySem.F.slot_list_append PySem.F.type_list_append X0 (pv 4) (Xa (XG (Xp K rfl) (X3 (Xa Xq (Xa Xq Xf))) (XG (Xp K rfl) (pv 1) Xe (λ_ _=>rfl)) (λ_ _=>rfl)) Xf)))
   (Xc (Yp (ZS PySem.F.plainAttrs_list PySem.F.slot_list_append PySem.F.type_list_append X0 (pv 5) (Xa (XG (Xp K rfl) (pv 4) (DY Fg Xe) (λ_ _=>rfl)) Xf)))
   Xh))
   Xh)
  (Xc (Yt (XB ZU (pv 2) Xq (XH _))
   (Xc (Yp (ZS PySem.F.plainAttrs_list PySem.F.slot_list_append PySem.F.type_list_append X0 (pv 4) (Xa (ZB ZU (XG (Xp K rfl) (pv 1) Xe (λ_ _=>rfl)) Xe (XH _)) Xf)))
   (Xc (Yp (ZS PySem.F.plainAttrs_list PySem.F.slot_list_append PySem.F.type_list_append X0 (pv 5) (Xa (XG (Xp K rfl) (X3 (Xa Xq (Xa Xq Xf))) (XG (Xp K rfl) (pv 1) Xe (λ_ _=>rfl)) (λ_ _=>rfl)) Xf)))
   Xh))
   Xh)
  (Xc (Yt (XB UQ (pv 2) (YY (Xa Xq (Xa Xq Xf))) rfl)
   (Xc (Yp (ZS PySem.F.plainAttrs_list PySem.F.slot_list_append PySem.F.type_list_append X0 (pv 4) (Xa (Xy Fq Xe (Xy YU Xe (XG (Xp K rfl) (pv 1) Xe (λ_ _=>rfl)))) Xf)))
   (Xc (Yp (ZS PySem.F.plainAttrs_list PySem.F.slot_list_append PySem.F.type_list_append X0 (pv 5) (Xa (XG (Xp K rfl) (X3 (Xa Xq (Xa Xq Xf))) (XG (Xp K rfl) (pv 1) Xe (λ_ _=>rfl)) (λ_ _=>rfl)) Xf)))
   Xh))
   Xh)
  (Xc (UJ 6 (Xk QN) ["_law_some","_law_more","_law_form","_law_count","_law_parts","_law_words","_law_long","_law_line"] ["_law_k"] [(4,"_law_parts")] rfl Ze.nd rfl rfl (Zq rfl Z.b_range (Xa (pv 3) Xf)) (Qt (by decide)) (λcl C s H ex E=>⟨Yv (i:=0) (show List.Nodup (["_law_k","_law_parts"]:List Str) by decide+kernel) rfl (Or.inl rfl),(FM (XB BB (XC GD rfl Z.b_abs PyProof.Rows.boot_abs (Xa (XG (Xp K rfl) (pv 1) (pv 0) (λ_ _=>rfl)) Xf)) (Xy ZN Xe Xe) (XH _))),(pv 0)⟩))
  (Xc (XE (i:=7) Ze.nd rfl (Or.inl rfl) (V1 (K:=K) rfl PySem.F.plainAttrs_str PySem.F.slot_str_join PySem.F.type_str_join (Kg K rfl) Xq (Xa (Xy J1 (X3 (Xa (pv 2) Xf)) (pv 5)) Xf)))
  (Xc (XO (YY (Xa (YG (Zc K rfl) rfl Z.b_tuple PyProof.Rows.boot_tuple (Xa (Xy J1 (X3 (Xa (pv 2) Xf)) (pv 4)) Xf)) (Xa (pv 7) (Xa (ZB GT (XC (Xz K rfl) rfl Z.b_len PySem.boot_len (Xa (pv 6) Xf)) Xe (XH _)) Xf)))))
  Xh)))))))))),?_⟩
 refine ZW (S:=(SC.add (SC.add SC.nil K (rV Xg) v_0 a_0) K (rV Xg) v_1 a_1)) (σ:=[some v_0,some v_1,none,none,none,none,none,none]) 2 ?_ (SC.i (SC.i SC.t h_0) h_1) hm q rfl
 unfold Qe
 exact(XL (K:=K) (r:=Xm) 2 (EvB.sh (XF (Ev.toB (Ye (Xj (EvB.sh (Xo _)) (Xj (EvB.sh (Xo _)) (Xj (EvB.sh (Xo _)) (Xj (EvB.sh (Xo _)) (Xj (EvB.sh (Xo _)) (Xj (EvB.sh (Xo _)) XI)))))))) (XF (Xb (r:=(rV Xg)) 1 rfl (λ_ s=>s.r)) (Xd 0)))) λa1 v2=>(XL (K:=K) (r:=Xg) 3 (EvB.sh (XF (Ev.toB (Ye (Xj (EvB.sh (Xd 2)) (Xj (EvB.sh (Xd 3)) (Xj (EvB.sh (Xd 2)) (Xj (EvB.sh (Xd 6)) (Xj (EvB.sh (Xd 4)) (Xj (EvB.sh (Xd 6)) XI)))))))) (XF (Xb (r:=(rV Xg)) 1 rfl (λ_ s=>s.l.r)) (Xd 0)))) λa20 v21=>(Q2 (K:=K) (o:=(oL (oF rMx))) 4 0 (Jc (λ_=>tg1 0) (YN (Xb (r:=Xg) 3 rfl (λ_ s=>s.r))) (λC43 a44 v45=>(EvS.ev (QR (EvB.sh (Ev.toB (Yx (Xb (r:=(rV Xg)) 1 rfl (λ_ s=>s.l.l.l.l.r)) (Xb (r:=Xg) 0 rfl (λ_ s=>s.r))))))))) (Nat.le_of_ble_eq_true rfl) λa39 v40 C41=>(Q2 (K:=K) (o:=(oL (oF Xm))) 5 1 (FC (K:=K) (o1:=(oL (oF rMx))) 0 rfl (λ_ s=>s.r) (Jc (λ_=>tg1 0) (Z5 (X9 (r:=(rV rMx)) 4 rfl (λ_ s=>s.r))) (λC54 a55 v56=>(EvS.ev (EvB.sh (Q8 (Qv (Xb (r:=rMx) 0 rfl (λ_ s=>s.r))))))))) (Nat.le_of_ble_eq_true rfl) λa51 v52 C53=>(Zk (J:=({oo:=λx63=>[x63.2.2.1,x63.2.2.2],ss:=λx63=>[some v_0,some v_1,some v2,some v21,some x63.1,some x63.2.1,none,none],sc:=λg64 x63=>(SC.addO (SC.addO (SC.add (SC.add (SC.add (SC.add SC.nil K (rV Xg) v_0 a_0) K (rV Xg) v_1 a_1) K Xm v2 a1) K Xg v21 a20) K (oL (oF rMx)) x63.1 g64.1 x63.2.2.1) K (oL (oF Xm)) x63.2.1 g64.2 x63.2.2.2)}:Jn ((List Mx)×(List Str)) (V×V×List Xs×List Xs))) (Qk (Fd:=FNd ({oo:=λx63=>[x63.2.2.1,x63.2.2.2],ss:=λx63=>[some v_0,some v_1,some v2,some v21,some x63.1,some x63.2.1,none,none],sc:=λg64 x63=>(SC.addO (SC.addO (SC.add (SC.add (SC.add (SC.add SC.nil K (rV Xg) v_0 a_0) K (rV Xg) v_1 a_1) K Xm v2 a1) K Xg v21 a20) K (oL (oF rMx)) x63.1 g64.1 x63.2.2.1) K (oL (oF Xm)) x63.2.1 g64.2 x63.2.2.2)}:Jn ((List Mx)×(List Str)) (V×V×List Xs×List Xs))) (Xt (K:=K) (YT (Xb (r:=Xm) 2 rfl (λ_ s=>s.l.l.l.r)) (Xo _))) (Zo (K:=K) (o:=(oF rMx)) (f:=λa77=>(Rs.bind (Rs.bind (Rs.bind (Rs.ok a77) λx79=>(Rs.bind (Rs.bind (Rs.ok (1:Int)) λx78=>(Rs.ok (-x78))) λx80=>(atR x79 x80))) mxS) λa81=>(chk (a51.length<sizeLine) ((λa83=>(Rs.ok (a77,a83))) (a51++[a81]))))) 4 0 rfl rfl rfl (λ_ s=>s.l.r) (EvS.ev (Jr (EvB.sh (XF (Ev.toB (Ye (Xj (EvB.sh (Xo _)) (Xj (EvB.sh (Xo _)) XI)))) (XF (Xb (r:=(rV Xg)) 1 rfl (λ_ s=>s.l.l.l.l.r)) (Xd 1)))))) λa75 C76=>(Zo (K:=K) (o:=(oF Xm)) (f:=λa83=>(Rs.ok ((a39++[a75]),a83))) 5 1 rfl rfl rfl (λ_ s=>s.l.r) (EvS.ev (EvB.sh (ZI (XF (Vl (o:=(oL (oF rMx))) 4 0 rfl rfl (λ_ s=>s.r)) (UF (Xd 1)))))) λa81 C82=>(Yf (J:=_) (v40,v52,C76,C82) ((a39++[a75]),(a51++[a81])) rfl rfl (λ_ s=>(SC.i (SC.i (SC.i (SC.i (SC.i (SC.i SC.t s.l.l.l.l.l.l.l.r) s.l.l.l.l.l.l.r) s.l.l.l.l.l.r) s.l.l.l.l.r) s.l.r) s.r))))) (Yf (J:=_) (v40,v52,C41,C53) (a39,a51) rfl rfl (λ_ s=>(SC.i (SC.i (SC.i (SC.i (SC.i (SC.i SC.t s.l.l.l.l.l.r) s.l.l.l.l.r) s.l.l.l.r) s.l.l.r) s.l.r) s.r)))) λg85 x84=>(Zk (J:=({oo:=λx89=>[x89.2.2.1,x89.2.2.2],ss:=λx89=>[some v_0,some v_1,some v2,some v21,some x89.1,some x89.2.1,none,none],sc:=λg90 x89=>(SC.addO (SC.addO (SC.add (SC.add (SC.add (SC.add SC.nil K (rV Xg) v_0 a_0) K (rV Xg) v_1 a_1) K Xm v2 a1) K Xg v21 a20) K (oL (oF rMx)) x89.1 g90.1 x89.2.2.1) K (oL (oF Xm)) x89.2.1 g90.2 x89.2.2.2)}:Jn ((List Mx)×(List Str)) (V×V×List Xs×List Xs))) (Qk (Fd:=FNd ({oo:=λx89=>[x89.2.2.1,x89.2.2.2],ss:=λx89=>[some v_0,some v_1,some v2,some v21,some x89.1,some x89.2.1,none,none],sc:=λg90 x89=>(SC.addO (SC.addO (SC.add (SC.add (SC.add (SC.add SC.nil K (rV Xg) v_0 a_0) K (rV Xg) v_1 a_1) K Xm v2 a1) K Xg v21 a20) K (oL (oF rMx)) x89.1 g90.1 x89.2.2.1) K (oL (oF Xm)) x89.2.1 g90.2 x89.2.2.2)}:Jn ((List Mx)×(List Str)) (V×V×List Xs×List Xs))) (Xt (K:=K) (YT (Xb (r:=Xm) 2 rfl (λ_ s=>s.l.l.l.r)) (Xo _))) (Zo (K:=K) (o:=(oF rMx)) (f:=λa98=>(Rs.bind (Rs.bind (Rs.bind (Rs.bind (Rs.ok ("crossed":Str)) λx102=>(Rs.bind (Rs.bind (Rs.ok ("plain":Str)) λx100=>(Rs.bind (Rs.ok []) λx101=>(Rs.ok (x100::x101)))) λx103=>(Rs.ok (x102::x103)))) λx99=>(chk (x99.length<=sizeLine) (Rs.ok x99))) λx106=>(Rs.bind (Rs.bind (Rs.ok a_1) λx104=>(Rs.bind (Rs.ok (1:Int)) λx105=>(atR x104 x105))) λx107=>(atR x106 x107))) λa108=>(chk (g85.2.length<sizeLine) ((λa110=>(Rs.ok (a98,a110))) (g85.2++[a108]))))) 4 0 rfl rfl rfl (λ_ s=>s.l.r) (EvS.ev (UT (EvB.sh (YT (XF (Xb (r:=(rV Xg)) 1 rfl (λ_ s=>s.l.l.l.l.r)) (Xd 1)) (Xd 0))))) λa96 C97=>(Zo (K:=K) (o:=(oF Xm)) (f:=λa110=>(Rs.ok ((g85.1++[a96]),a110))) 5 1 rfl rfl rfl (λ_ s=>s.l.r) (EvS.ev (EvB.sh (XF (Ev.toB (Ye (Xj (EvB.sh (Xo _)) (Xj (EvB.sh (Xo _)) XI)))) (XF (Xb (r:=(rV Xg)) 1 rfl (λ_ s=>s.l.l.l.l.l.r)) (Xd 1))))) λa108 C109=>(Yf (J:=_) (x84.1,x84.2.1,C97,C109) ((g85.1++[a96]),(g85.2++[a108])) rfl rfl (λ_ s=>(SC.i (SC.i (SC.i (SC.i (SC.i (SC.i SC.t s.l.l.l.l.l.l.l.r) s.l.l.l.l.l.l.r) s.l.l.l.l.l.r) s.l.l.l.l.r) s.l.r) s.r))))) (Yf (J:=_) (x84.1,x84.2.1,x84.2.2.1,x84.2.2.2) (g85.1,g85.2) rfl rfl (λ_ s=>(SC.i (SC.i (SC.i (SC.i (SC.i (SC.i SC.t s.l.l.l.l.l.r) s.l.l.l.l.r) s.l.l.l.r) s.l.l.r) s.l.r) s.r)))) λg112 x111=>(Zk (J:=({oo:=λx119=>[x119.2.2.1,x119.2.2.2],ss:=λx119=>[some v_0,some v_1,some v2,some v21,some x119.1,some x119.2.1,none,none],sc:=λg120 x119=>(SC.addO (SC.addO (SC.add (SC.add (SC.add (SC.add SC.nil K (rV Xg) v_0 a_0) K (rV Xg) v_1 a_1) K Xm v2 a1) K Xg v21 a20) K (oL (oF rMx)) x119.1 g120.1 x119.2.2.1) K (oL (oF Xm)) x119.2.1 g120.2 x119.2.2.2)}:Jn ((List Mx)×(List Str)) (V×V×List Xs×List Xs))) (Qk (Fd:=FNd ({oo:=λx119=>[x119.2.2.1,x119.2.2.2],ss:=λx119=>[some v_0,some v_1,some v2,some v21,some x119.1,some x119.2.1,none,none],sc:=λg120 x119=>(SC.addO (SC.addO (SC.add (SC.add (SC.add (SC.add SC.nil K (rV Xg) v_0 a_0) K (rV Xg) v_1 a_1) K Xm v2 a1) K Xg v21 a20) K (oL (oF rMx)) x119.1 g120.1 x119.2.2.1) K (oL (oF Xm)) x119.2.1 g120.2 x119.2.2.2)}:Jn ((List Mx)×(List Str)) (V×V×List Xs×List Xs))) (Xt (K:=K) (FW (Xb (r:=Xm) 2 rfl (λ_ s=>s.l.l.l.r)) (QV (Ev.toB (EvS.ev (Y7 (EvB.sh (Xo _)) (EvB.sh (Xo _)))))))) (Zo (K:=K) (o:=(oF rMx)) (f:=λa130=>(Rs.bind (Rs.bind (Rs.bind (Rs.bind (Rs.ok ("+":Str)) λx134=>(Rs.bind (Rs.bind (Rs.ok ("-":Str)) λx132=>(Rs.bind (Rs.ok []) λx133=>(Rs.ok (x132::x133)))) λx135=>(Rs.ok (x134::x135)))) λx131=>(chk (x131.length<=sizeLine) (Rs.ok x131))) λx138=>(Rs.bind (Rs.bind (Rs.ok a_1) λx136=>(Rs.bind (Rs.ok (2:Int)) λx137=>(atR x136 x137))) λx139=>(atR x138 x139))) λa140=>(chk (g112.2.length<sizeLine) ((λa142=>(Rs.ok (a130,a142))) (g112.2++[a140]))))) 4 0 rfl rfl rfl (λ_ s=>s.l.r) (EvS.ev (QR (EvB.sh (UU (Xd 1) (Yl (Xd 2) (XF (Xb (r:=(rV Xg)) 1 rfl (λ_ s=>s.l.l.l.l.r)) (Xd 2))))))) λa128 C129=>(Zo (K:=K) (o:=(oF Xm)) (f:=λa142=>(Rs.ok ((g112.1++[a128]),a142))) 5 1 rfl rfl rfl (λ_ s=>s.l.r) (EvS.ev (EvB.sh (XF (Ev.toB (Ye (Xj (EvB.sh (Xo _)) (Xj (EvB.sh (Xo _)) XI)))) (XF (Xb (r:=(rV Xg)) 1 rfl (λ_ s=>s.l.l.l.l.l.r)) (Xd 2))))) λa140 C141=>(Yf (J:=_) (x111.1,x111.2.1,C129,C141) ((g112.1++[a128]),(g112.2++[a140])) rfl rfl (λ_ s=>(SC.i (SC.i (SC.i (SC.i (SC.i (SC.i SC.t s.l.l.l.l.l.l.l.r) s.l.l.l.l.l.l.r) s.l.l.l.l.l.r) s.l.l.l.l.r) s.l.r) s.r))))) (Yf (J:=_) (x111.1,x111.2.1,x111.2.2.1,x111.2.2.2) (g112.1,g112.2) rfl rfl (λ_ s=>(SC.i (SC.i (SC.i (SC.i (SC.i (SC.i SC.t s.l.l.l.l.l.r) s.l.l.l.l.r) s.l.l.l.r) s.l.l.r) s.l.r) s.r)))) λg144 x143=>(XL (K:=K) (r:=(rV Xg)) 6 (Ev.sh (Gp (λ_=>tg1 0) (YN (Xb (r:=Xg) 3 rfl (λ_ s=>s.l.l.r))) (λC148 a149 v150=>(Xt (K:=K) (CA (DM (Qv (XF (Vl (o:=(oL (oF rMx))) 1 1 rfl rfl (λ_ s=>s.l.l.r)) (Xb (r:=Xg) 0 rfl (λ_ s=>s.r))))) (YW (Xd 10) (Xd 18))))) (λC148 a149 v150=>(EvS.ev (X9 (r:=Xg) 0 rfl (λ_ s=>s.r)))))) λa145 v146=>(XL (K:=K) (r:=Xm) 7 (EvB.sh (V5 (Xo _) (Ev.toB (JU (Ev.ls (Ye (Xj (X9 (r:=Xm) 2 rfl (λ_ s=>s.l.l.l.l.r)) XI))) (UX (r:=Xm) 5 1 rfl rfl (λ_ s=>s.l.r)))))) λa159 v160=>(XN (EvS.ev (GC (EvB.sh (QC (Ev.toB (JU (Ev.ls (Ye (Xj (Jr (X9 (r:=Xm) 2 rfl (λ_ s=>s.l.l.l.l.l.r))) XI))) (UX (r:=rMx) 4 0 rfl rfl (λ_ s=>s.l.l.l.r)))))) (X9 (r:=Xm) 7 rfl (λ_ s=>s.r)) (EvB.sh (VU (ZC (Xb (r:=(rV Xg)) 6 rfl (λ_ s=>s.l.r))) (Xd 0)))))))))))))))
theorem V8:FnScope ["_law_found","_law_due","_law_k"] ["_law_found","_law_due"] (Xk Vo):=⟨rfl,rfl,rfl,by decide+kernel,rfl,by decide+kernel,by decide+kernel⟩
theorem GI (D:Def K mg "_law_alike" Vo ["_law_found","_law_due"])(Y:Ecs XR K mg)(Wc:Cds P w K mg)(Z:Blt mg):Fn P w K mg base 1 "_law_alike" ["_law_found","_law_due"] (sp2 (rPL rMx) (rPL rMx) (oF Xx) ZE K):=by
 refine Qq D V8 (λvs H Q E h=>?_) (λf cdv A outer s H vs Q E hr h=>?_)
 ·obtain⟨v_0,v_1,a_0,a_1,b,rfl,_⟩:=h;rfl
 obtain⟨v_0,v_1,a_0,a_1,b,rfl,h_0,h_1,hm,q⟩:=h
 have hu:=hu8 hr
 have hu1:=Y2 hr
 refine⟨_,(Xc (Yt (PW.pt (Uk (JE (ZP (XC X7 rfl Z.b_isinstance PyProof.Rows.boot_isinstance (Xa (pv 0) (Xa (Zz (v:=V.ty "tuple") rfl Z.b_tuple PyProof.Rows.boot_tuple rfl) Xf))))) (QL (XB J9 (XC (Xz K rfl) rfl Z.b_len PySem.boot_len (Xa (pv 0) Xf)) (XC (Xz K rfl) rfl Z.b_len PySem.boot_len (Xa (pv 1) Xf)) (XH _)))))
   (Xc (XO Ud)
   Xh)
   Xh)
  (Xc (Ky PassesOwn.never rfl (Zq rfl Z.b_range (Xa (XC (Xz K rfl) rfl Z.b_len PySem.boot_len (Xa (pv 1) Xf)) Xf)) (Yv (i:=2) V8.nd rfl (Or.inl rfl))
   (Xc (Yt (XB J9 (XC X7 rfl Z.b_isinstance PyProof.Rows.boot_isinstance (Xa (XG (X4 K rfl) (pv 1) (pv 2) (λ_ _=>rfl)) (Xa (Zz (v:=V.ty "bool") rfl Z.b_bool PyProof.Rows.boot_bool rfl) Xf))) (XC X7 rfl Z.b_isinstance PyProof.Rows.boot_isinstance (Xa (XG (X4 K rfl) (pv 0) (pv 2) (λ_ _=>rfl)) (Xa (Zz (v:=V.ty "bool") rfl Z.b_bool PyProof.Rows.boot_bool rfl) Xf))) (XH _))
    (Xc (XO Ud)
    Xh)
    Xh)
   (Xc (Yt (XB J9 (XC X7 rfl Z.b_isinstance PyProof.Rows.boot_isinstance (Xa (XG (X4 K rfl) (pv 1) (pv 2) (λ_ _=>rfl)) (Xa (Zz (v:=V.ty "str") rfl Z.b_str PyProof.Rows.boot_str rfl) Xf))) (XC X7 rfl Z.b_isinstance PyProof.Rows.boot_isinstance (Xa (XG (X4 K rfl) (pv 0) (pv 2) (λ_ _=>rfl)) (Xa (Zz (v:=V.ty "str") rfl Z.b_str PyProof.Rows.boot_str rfl) Xf))) (XH _))
    (Xc (XO Ud)
    Xh)
    Xh)
   Xh)))
  (Xc (XO (ZB (CZ K rfl (DV (by decide) hu)) (pv 0) (pv 1) (XH _)))
  Xh))),?_⟩
 refine ZW (S:=(SC.add (SC.add SC.nil K (rPL rMx) v_0 a_0) K (rPL rMx) v_1 a_1)) (σ:=[some v_0,some v_1,none]) 0 ?_ (SC.i (SC.i SC.t h_0) h_1) hm q rfl
 unfold ZE
 exact(Yy (QF (Qm (Qw (K:=K) (QI "tuple" true (Y5 K "tuple") (Xb (r:=(rPL rMx)) 0 rfl (λ_ s=>s.l.r))))) (Xt (K:=K) (Z3 (Je (Xb (r:=(rPL rMx)) 0 rfl (λ_ s=>s.l.r))) (Je (Xb (r:=(rPL rMx)) 1 rfl (λ_ s=>s.r)))))) (XN (EvS.ev (EvB.sh (QJ false)))) (Dp (K:=K) (J:=({oo:=λx10=>[],ss:=λx10=>[some v_0,some v_1,x10],sc:=λg11 x10=>(SC.add (SC.add SC.nil K (rPL rMx) v_0 a_0) K (rPL rMx) v_1 a_1)}:Jn (Unit) (Option V))) (λ_=>tg1 2) ((none)) () (YN (Je (Xb (r:=(rPL rMx)) 1 rfl (λ_ s=>s.r)))) rfl rfl (λ_ s=>(SC.i (SC.i SC.t s.l.r) s.r)) (λg12 x13 a14 v15=>(UZ (Xt (K:=K) (Z3 (ZY "bool" false false true (ZO K) (ZR K) (Y5 K "bool") (Yj (Xb (r:=(rPL rMx)) 1 rfl (λ_ s=>s.l.r)) (Xb (r:=Xg) 2 rfl (λ_ s=>s.r)))) (ZY "bool" false false true (ZO K) (ZR K) (Y5 K "bool") (Yj (Xb (r:=(rPL rMx)) 0 rfl (λ_ s=>s.l.l.r)) (Xb (r:=Xg) 2 rfl (λ_ s=>s.r)))))) (XN (EvS.ev (EvB.sh (QJ false)))) (UZ (Xt (K:=K) (Z3 (ZY "str" false true false (Qf K) (Y5 K "str") (ZL K) (Yj (Xb (r:=(rPL rMx)) 1 rfl (λ_ s=>s.l.r)) (Xb (r:=Xg) 2 rfl (λ_ s=>s.r)))) (ZY "str" false true false (Qf K) (Y5 K "str") (ZL K) (Yj (Xb (r:=(rPL rMx)) 0 rfl (λ_ s=>s.l.l.r)) (Xb (r:=Xg) 2 rfl (λ_ s=>s.r)))))) (XN (EvS.ev (EvB.sh (QJ false)))) (Cm (Yf (J:=_) ((some v15)) () rfl rfl (λ_ s=>(SC.i (SC.i SC.t s.l.l.r) s.l.r))))))) λg37 x38=>(XN (EvS.ev (EvB.sh (Fx (Xb (r:=(rPL rMx)) 0 rfl (λ_ s=>s.l.r)) (Xb (r:=(rPL rMx)) 1 rfl (λ_ s=>s.r))))))))
theorem Y6:FnScope ["_law_made_here","_law_move","_law_line","_law_far","_law_told","_law_found"] ["_law_made_here"] (Xk Vr):=⟨rfl,rfl,rfl,by decide+kernel,rfl,by decide+kernel,by decide+kernel⟩
theorem GR (D:Def K mg "_law_asked" Vr ["_law_made_here"])(g_show_move:Fn P w K mg base 2 "show_move" ["move"] (sp1 (rPL rMx) (oF Xm) Yb K))(g_read:Fn P w K mg base 4 "_law_read" ["_law_line"] (sp1 Xm (oF (rEi (rP2 Xm Xx) (rP2 Xm (rPL rMx)))) QO K))(g_alike:Fn P w K mg base 1 "_law_alike" ["_law_found","_law_due"] (sp2 (rPL rMx) (rPL rMx) (oF Xx) ZE K))(Y:Ecs XR K mg)(Wc:Cds P w K mg)(Z:Blt mg):Fn P w K mg base 5 "_law_asked" ["_law_made_here"] (sp1 (rP3 (rPL rMx) Xm Xx) (oF Xx) Y3 K):=by
 refine Qq D Y6 (λvs H Q E h=>?_) (λf cdv A outer s H vs Q E hr h=>?_)
 ·obtain⟨v_0,a_0,b,rfl,_⟩:=h;rfl
 obtain⟨v_0,a_0,b,rfl,h_0,hm,q⟩:=h
 have hu:=hu8 hr
 have hu1:=Y2 hr
 refine⟨_,(Xc (C7 (pv 0) (Ca rfl (Jl (Yv (i:=1) Y6.nd rfl (Or.inl rfl)) (Jl (Yv (i:=2) Y6.nd rfl (Or.inl rfl)) (Jl (Yv (i:=3) Y6.nd rfl (Or.inl rfl)) FU)))))
  (Xc (XE (i:=4) Y6.nd rfl (Or.inl rfl) (YE g_show_move hr (by decide) (Xa (pv 1) Xf)))
  (Xc (Yt (PW.pt (Uk (JE (ZP (XC X7 rfl Z.b_isinstance PyProof.Rows.boot_isinstance (Xa (pv 4) (Xa (Zz (v:=V.ty "str") rfl Z.b_str PyProof.Rows.boot_str rfl) Xf))))) (QL (XB J9 (pv 4) (pv 2) (XH _)))))
   (Xc (XO Ud)
   Xh)
   Xh)
  (Xc (XE (i:=5) Y6.nd rfl (Or.inl rfl) (YE g_read hr (by decide) (Xa (pv 2) Xf)))
  (Xc (Yt (ZP (pv 3))
   (Xc (XO (ZB (CB (BI FY Cz) (CY FY (Ct (r:=Xx) (q:=(rPL rMx)) rfl rfl)) (DV (by decide) hu)) (pv 5) (YY (Xa Xq (Xa Ud Xf))) (XH _)))
   Xh)
   Xh)
  (Xc (XO (Fh (ZB ZU (XG (X4 K rfl) (pv 5) Xe (λ_ _=>rfl)) Xq (XH _)) (GV (YE g_alike hr (by decide) (Xa (XG (X4 K rfl) (pv 5) Xe (λ_ _=>rfl)) (Xa (pv 1) Xf))))))
  Xh)))))),?_⟩
 refine ZW (S:=(SC.add SC.nil K (rP3 (rPL rMx) Xm Xx) v_0 a_0)) (σ:=[some v_0,none,none,none,none,none]) 0 ?_ (SC.i SC.t h_0) hm q rfl
 unfold Y3
 exact(DF 1 2 3 (X9 (r:=(rP3 (rPL rMx) Xm Xx)) 0 rfl (λ_ s=>s.r)) λa1 v2 v3 v4=>(XL (K:=K) (r:=Xm) 4 (EvB.sh (Ev.toB (Yw (Xb (r:=(rPL rMx)) 1 rfl (λ_ s=>s.l.l.r))))) λa5 v6=>(Yy (QF (Qm (Qw (K:=K) (QI "str" true (Y5 K "str") (Xb (r:=Xm) 4 rfl (λ_ s=>s.r))))) (Xt (K:=K) (Z3 (Xb (r:=Xm) 4 rfl (λ_ s=>s.r)) (Xb (r:=Xm) 2 rfl (λ_ s=>s.l.l.r))))) (XN (EvS.ev (EvB.sh (QJ false)))) (XL (K:=K) (r:=(rEi (rP2 Xm Xx) (rP2 Xm (rPL rMx)))) 5 (EvB.sh (Ev.toB (Yw (Xb (r:=Xm) 2 rfl (λ_ s=>s.l.l.r))))) λa14 v15=>(Yy (Qw (K:=K) (Xb (r:=Xx) 3 rfl (λ_ s=>s.l.l.r))) (XN (EvS.ev (EvB.sh (Dh (Xb (r:=(rEi (rP2 Xm Xx) (rP2 Xm (rPL rMx)))) 5 rfl (λ_ s=>s.r)) (Ev.toB (EvS.ev (Y7 (EvB.sh (Xo _)) (EvB.sh (QJ true))))))))) (XN (EvS.ev (EvB.sh (VQ (YT (F4 (Xb (r:=(rEi (rP2 Xm Xx) (rP2 Xm (rPL rMx)))) 5 rfl (λ_ s=>s.r))) (Xo _)) (Ev.toB (Yx (F6 (GS (Xb (r:=(rEi (rP2 Xm Xx) (rP2 Xm (rPL rMx)))) 5 rfl (λ_ s=>s.r)))) (Xb (r:=(rPL rMx)) 1 rfl (λ_ s=>s.l.l.l.l.r)))))))))))))
theorem Qn:FnScope ["_law_script","_law_one","_law_two","_law_more","_law_again","_law_first","_law_other"] ["_law_script"] (Xk QS):=⟨rfl,rfl,rfl,by decide+kernel,rfl,by decide+kernel,by decide+kernel⟩
theorem C9 {f:Addr}{fd:FuncData}(F:Fun K "law" "law" QS f fd)(g_row:Fn P w K mg base 2 "_law_row" ["_law_script","_law_place","_law_sizes"] (sp3 (rL Xg) Xg (rV Xg) (oL (oF Xg)) Qo K))(g_made:Fn P w K mg base 2 "_law_made" ["_law_some","_law_more"] (sp2 (rV Xg) (rV Xg) (oF (rP3 (rPL rMx) Xm Xx)) Qe K))(g_asked:Fn P w K mg base 5 "_law_asked" ["_law_made_here"] (sp1 (rP3 (rPL rMx) Xm Xx) (oF Xx) Y3 K))(Y:Ecs XR K mg)(Wc:Cds P w K mg)(Z:Blt mg):FnOk P w K mg base CX0 6 f fd ["_law_script"] (sp1 (rL Xg) (oF Xx) Vd K):=by
 refine F.ok Qn (λvs H Q E h=>?_) (λcdv A outer s H vs Q E hr h=>?_)
 ·obtain⟨v_0,a_0,b,rfl,_⟩:=h;rfl
 obtain⟨v_0,a_0,b,rfl,h_0,hm,q⟩:=h
 have hu:=hu8 hr
 have hu1:=Y2 hr
 refine⟨_,(Xc (XE (i:=1) Qn.nd rfl (Or.inl rfl) (YE g_row hr (by decide) (Xa (pv 0) (Xa Xe (Xa (Xy J1 (X3 (Xa Xe Xf)) (Xy Ff (X3 (Xa Xe (Xa Xe (Xa (Xy ZN Xe Xe) Xf)))) Xe)) Xf)))))
  (Xc (XE (i:=2) Qn.nd rfl (Or.inl rfl) (YE g_row hr (by decide) (Xa (pv 0) (Xa Xe (Xa (Xy J1 (X3 (Xa Xe Xf)) (Xy Ff (X3 (Xa Xe (Xa Xe (Xa (Xy ZN Xe Xe) Xf)))) Xe)) Xf)))))
  (Xc (XE (i:=3) Qn.nd rfl (Or.inl rfl) (YE g_row hr (by decide) (Xa (pv 0) (Xa Xe (Xa (X3 (Xa Xe (Xa Xe (Xa Xe Xf)))) Xf Zm)))))
  (Xc (XE (i:=4) Qn.nd rfl (Or.inl rfl) (YE g_row hr (by decide) (Xa (pv 0) (Xa Xe (Xa (X3 (Xa Xe (Xa Xe (Xa Xe Xf)))) Xf Zm)))))
  (Xc (XE (i:=5) Qn.nd rfl (Or.inl rfl) (YE g_made hr (by decide) (Xa (pv 1) (Xa (pv 3) Xf))))
  (Xc (XE (i:=6) Qn.nd rfl (Or.inl rfl) (YE g_made hr (by decide) (Xa (pv 2) (Xa (pv 4) Xf))))
  (Xc (Yt (PW.pt (Uk (JE (ZP (YE g_asked hr (by decide) (Xa (pv 5) Xf)))) (QL (JE (ZP (YE g_asked hr (by decide) (Xa (pv 6) Xf)))))))
   (Xc (XO Ud)
   Xh)
   Xh)
  (Xc (XO (YE g_asked hr (by decide) (Xa (pv 5) Xf)))
  Xh)))))))),?_⟩
 refine ZW (S:=(SC.add SC.nil K (rL Xg) v_0 a_0)) (σ:=[some v_0,none,none,none,none,none,none]) 0 ?_ (SC.i SC.t h_0) hm q rfl
 unfold Vd
 exact(XL (K:=K) (r:=(rV Xg)) 1 (Ev.sh (Z0 (Xb (r:=(rL Xg)) 0 rfl (λ_ s=>s.r)) (Xd 0) (Ev.toB (JU (Ev.ls (Ye (Xj (EvB.sh (Xd 1)) XI))) (Ev.ls (GU (Ev.ls (Ye (Xj (EvB.sh (Xd 4)) (Xj (EvB.sh (Xd 2)) (Xj (EvB.sh (YW (Xd 10) (Xd 59))) XI))))) (Xd 6))))))) λa1 v2=>(XL (K:=K) (r:=(rV Xg)) 2 (Ev.sh (Z0 (Xb (r:=(rL Xg)) 0 rfl (λ_ s=>s.l.r)) (Xd 1) (Ev.toB (JU (Ev.ls (Ye (Xj (EvB.sh (Xd 1)) XI))) (Ev.ls (GU (Ev.ls (Ye (Xj (EvB.sh (Xd 4)) (Xj (EvB.sh (Xd 2)) (Xj (EvB.sh (YW (Xd 10) (Xd 59))) XI))))) (Xd 6))))))) λa23 v24=>(XL (K:=K) (r:=(rV Xg)) 3 (Ev.sh (Z0 (Xb (r:=(rL Xg)) 0 rfl (λ_ s=>s.l.l.r)) (Xd 2) (Ev.toB (Ye (Xj (EvB.sh (Xd 6)) (Xj (EvB.sh (Xd 2)) (Xj (EvB.sh (Xd 2)) XI))))))) λa45 v46=>(XL (K:=K) (r:=(rV Xg)) 4 (Ev.sh (Z0 (Xb (r:=(rL Xg)) 0 rfl (λ_ s=>s.l.l.l.r)) (Xd 3) (Ev.toB (Ye (Xj (EvB.sh (Xd 6)) (Xj (EvB.sh (Xd 2)) (Xj (EvB.sh (Xd 2)) XI))))))) λa58 v59=>(XL (K:=K) (r:=(rP3 (rPL rMx) Xm Xx)) 5 (EvB.sh (Ev.toB (Yx (Xb (r:=(rV Xg)) 1 rfl (λ_ s=>s.l.l.l.r)) (Xb (r:=(rV Xg)) 3 rfl (λ_ s=>s.l.r))))) λa71 v72=>(XL (K:=K) (r:=(rP3 (rPL rMx) Xm Xx)) 6 (EvB.sh (Ev.toB (Yx (Xb (r:=(rV Xg)) 2 rfl (λ_ s=>s.l.l.l.r)) (Xb (r:=(rV Xg)) 4 rfl (λ_ s=>s.l.r))))) λa76 v77=>(Yy (QF (Qm (Qw (K:=K) (Ev.toB (Yw (Xb (r:=(rP3 (rPL rMx) Xm Xx)) 5 rfl (λ_ s=>s.l.r)))))) (Qm (Qw (K:=K) (Ev.toB (Yw (Xb (r:=(rP3 (rPL rMx) Xm Xx)) 6 rfl (λ_ s=>s.r))))))) (XN (EvS.ev (EvB.sh (QJ false)))) (XN (Yw (Xb (r:=(rP3 (rPL rMx) Xm Xx)) 5 rfl (λ_ s=>s.l.r)))))))))))
end
theorem GW {K:PySem.W.Frag}{mg:Str->Option Value}{h:Heap}(X:K.In h)(G:h.Ns mainGlobals mg){x p0:Str}{st:Stmt}{f:Addr}{oc:Value}{od an:Option Addr}{osl:Array (Option Value)}{kV doc pm cdv ct:Value}(hb:∀(kV doc pm:Value) (an:Option Addr) (cdv ct u0:Value),bindArgs (PySem.W.fnOf x x (Yk st) (XY st) (Xk st) .none kV doc pm an cdv ct) ⟨[u0],[]⟩=pure ([p0].zip [u0]))(a:PySem.W.nsIn K mainGlobals x=some (some (.ref f)))(l:K.lookup f=some ⟨oc,od, .func (PySem.W.fnOf x x (Yk st) (XY st) (Xk st) .none kV doc pm an cdv ct),osl⟩)(c:PySem.W.codeIn K cdv x=true)(k:PySem.W.keepIn K (.ref f)=true):Def K mg x st [p0]:=⟨f,_,Qj l c k,(Qj l c k).binds λ_ _ _ _ _ _ us hl=>(by obtain⟨_,rfl⟩:=DW hl;exact hb ..),PySem.W.mg_of X G a⟩
theorem DP {K:PySem.W.Frag}{mg:Str->Option Value}{h:Heap}(X:K.In h)(G:h.Ns mainGlobals mg){x p0 p1:Str}{st:Stmt}{f:Addr}{oc:Value}{od an:Option Addr}{osl:Array (Option Value)}{kV doc pm cdv ct:Value}(hb:∀(kV doc pm:Value) (an:Option Addr) (cdv ct u0 u1:Value),bindArgs (PySem.W.fnOf x x (Yk st) (XY st) (Xk st) .none kV doc pm an cdv ct) ⟨[u0,u1],[]⟩=pure ([p0,p1].zip [u0,u1]))(a:PySem.W.nsIn K mainGlobals x=some (some (.ref f)))(l:K.lookup f=some ⟨oc,od, .func (PySem.W.fnOf x x (Yk st) (XY st) (Xk st) .none kV doc pm an cdv ct),osl⟩)(c:PySem.W.codeIn K cdv x=true)(k:PySem.W.keepIn K (.ref f)=true):Def K mg x st [p0,p1]:=⟨f,_,Qj l c k,(Qj l c k).binds λ_ _ _ _ _ _ us hl=>(by obtain⟨_,_,rfl⟩:=DQ hl;exact hb ..),PySem.W.mg_of X G a⟩
theorem B0 {K:PySem.W.Frag}{mg:Str->Option Value}{h:Heap}(X:K.In h)(G:h.Ns mainGlobals mg){x p0 p1 p2:Str}{st:Stmt}{f:Addr}{oc:Value}{od an:Option Addr}{osl:Array (Option Value)}{kV doc pm cdv ct:Value}(hb:∀(kV doc pm:Value) (an:Option Addr) (cdv ct u0 u1 u2:Value),bindArgs (PySem.W.fnOf x x (Yk st) (XY st) (Xk st) .none kV doc pm an cdv ct) ⟨[u0,u1,u2],[]⟩=pure ([p0,p1,p2].zip [u0,u1,u2]))(a:PySem.W.nsIn K mainGlobals x=some (some (.ref f)))(l:K.lookup f=some ⟨oc,od, .func (PySem.W.fnOf x x (Yk st) (XY st) (Xk st) .none kV doc pm an cdv ct),osl⟩)(c:PySem.W.codeIn K cdv x=true)(k:PySem.W.keepIn K (.ref f)=true):Def K mg x st [p0,p1,p2]:=⟨f,_,Qj l c k,(Qj l c k).binds λ_ _ _ _ _ _ us hl=>(by obtain⟨_,_,_,rfl⟩:=Bw hl;exact hb ..),PySem.W.mg_of X G a⟩
theorem CD {l:PySem.W.OpenLaw}{w:World}{K:PySem.W.Frag}{h:Heap}{mg:Str->Option Value}{fa f E0 E1 E2 pd:Addr}{tk0:Tok}(X:K.In h)(G:h.Ns mainGlobals mg)(hfa:mg "law" =some (.ref fa)){od an:Option Addr}{sl:Array (Option Value)}{oc kV dc pm cd ct:Value}
  (D1:Def K mg "sign_word" Zj ["sign"])
  (D2:Def K mg "show_move" YO ["move"])
  (D3:Def K mg "words_of" Zy ["line"])
  (D4:Def K mg "read_number" YL ["word"])
  (D5:Def K mg "read_sign" Zg ["word"])
  (D6:Def K mg "read_move" YI ["line"])
  (D7:Def K mg "ends_of_move" YC ["form","words"])
  (D8:Def K mg "read_choice" YM ["words","one","other"])
  (D9:Def K mg "_law_cell" UB ["_law_script","_law_place"])
  (D10:Def K mg "_law_mix" DE ["_law_cell_here","_law_k"])
  (D11:Def K mg "_law_row" F7 ["_law_script","_law_place","_law_sizes"])
  (D12:Def K mg "_law_read" UP ["_law_line"])
  (D13:Def K mg "_law_number" Jf ["_law_some","_law_k"])
  (D14:Def K mg "_law_made" QN ["_law_some","_law_more"])
  (D15:Def K mg "_law_alike" Vo ["_law_found","_law_due"])
  (D16:Def K mg "_law_asked" Vr ["_law_made_here"])
  (a:PySem.W.nsIn K mainGlobals "law" =some (some (.ref f)))(l0:K.lookup f=some ⟨oc,od, .func (PySem.W.fnOf "law" "law" (Yk QS) (XY QS) (Xk QS) .none kV dc pm an cd ct),sl⟩)(c:PySem.W.codeIn K cd "law" =true)(k:PySem.W.keepIn K (.ref f)=true)
  (z1:PySem.W.nsIn K mainGlobals "abs" =some none)
  (z2:PySem.W.nsIn K mainGlobals "bool" =some none)
  (z3:PySem.W.nsIn K mainGlobals "int" =some none)
  (z4:PySem.W.nsIn K mainGlobals "isinstance" =some none)
  (z5:PySem.W.nsIn K mainGlobals "len" =some none)
  (z6:PySem.W.nsIn K mainGlobals "range" =some none)
  (z7:PySem.W.nsIn K mainGlobals "str" =some none)
  (z8:PySem.W.nsIn K mainGlobals "tuple" =some none)
  (w0:PySem.W.nsIn K mainGlobals "MOST_FIGURES" =some (some (.int 18 tk0)))
  (x0:PySem.W.nsIn K mainGlobals "PlaitError" =some (some (.ref E0)))
  (x1:PySem.W.nsIn K mainGlobals "NoMove" =some (some (.ref E1)))
  (x2:PySem.W.nsIn K mainGlobals "NoLine" =some (some (.ref E2)))
  (yg:PySem.W.specialIn K (.builtin "object.__class__") "__get__" =some (some (.builtin "getset_descriptor.__get__")))
  (yt:PySem.W.takesIn K (.builtin "object.__class__")=some true)
  (ya0:PySem.W.excIn K E0 vEr "ValueError.__new__" =true)
  (yb0:PySem.W.findIn K (.ref E0) "__getattribute__" =some (some (.builtin "BaseException.__getattribute__")))
  (yc0:PySem.W.findIn K (.ref E0) "__getattr__" =some none)
  (yd0:PySem.W.findIn K (.ref E0) "__class__" =some (some (.builtin "object.__class__")))
  (ye0:PySem.W.mroIn K E0 (.type "object")=some true)
  (yf0:PySem.W.isClsIn K E0=true)
  (yh0:PySem.W.mroIn K E0 (.type "BaseException")=some true)
  (yi0:PySem.W.subIn K (.ref E0) (.type "ValueError")=some true)
  (yj0:PySem.W.typeIn K (.ref E0)=some (.type "type"))
  (yk0:PySem.W.subIn K (.ref E0) (.type "BaseException")=some true)
  (ya1:PySem.W.excIn K E1 vEr "ValueError.__new__" =true)
  (yb1:PySem.W.findIn K (.ref E1) "__getattribute__" =some (some (.builtin "BaseException.__getattribute__")))
  (yc1:PySem.W.findIn K (.ref E1) "__getattr__" =some none)
  (yd1:PySem.W.findIn K (.ref E1) "__class__" =some (some (.builtin "object.__class__")))
  (ye1:PySem.W.mroIn K E1 (.type "object")=some true)
  (yf1:PySem.W.isClsIn K E1=true)
  (yh1:PySem.W.mroIn K E1 (.type "BaseException")=some true)
  (yi1:PySem.W.subIn K (.ref E1) (.type "ValueError")=some true)
  (yj1:PySem.W.typeIn K (.ref E1)=some (.type "type"))
  (yk1:PySem.W.subIn K (.ref E1) (.type "BaseException")=some true)
  (ya2:PySem.W.excIn K E2 vEr "ValueError.__new__" =true)
  (yb2:PySem.W.findIn K (.ref E2) "__getattribute__" =some (some (.builtin "BaseException.__getattribute__")))
  (yc2:PySem.W.findIn K (.ref E2) "__getattr__" =some none)
  (yd2:PySem.W.findIn K (.ref E2) "__class__" =some (some (.builtin "object.__class__")))
  (ye2:PySem.W.mroIn K E2 (.type "object")=some true)
  (yf2:PySem.W.isClsIn K E2=true)
  (yh2:PySem.W.mroIn K E2 (.type "BaseException")=some true)
  (yi2:PySem.W.subIn K (.ref E2) (.type "ValueError")=some true)
  (yj2:PySem.W.typeIn K (.ref E2)=some (.type "type"))
  (yk2:PySem.W.subIn K (.ref E2) (.type "BaseException")=some true)
  (yl0_0:PySem.W.subIn K (.ref E0) (.ref E0)=some true)
  (yl0_1:PySem.W.subIn K (.ref E0) (.ref E1)=some false)
  (yl0_2:PySem.W.subIn K (.ref E0) (.ref E2)=some false)
  (yl1_0:PySem.W.subIn K (.ref E1) (.ref E0)=some true)
  (yl1_1:PySem.W.subIn K (.ref E1) (.ref E1)=some true)
  (yl1_2:PySem.W.subIn K (.ref E1) (.ref E2)=some false)
  (yl2_0:PySem.W.subIn K (.ref E2) (.ref E0)=some true)
  (yl2_1:PySem.W.subIn K (.ref E2) (.ref E1)=some false)
  (yl2_2:PySem.W.subIn K (.ref E2) (.ref E2)=some true)
  (d0:PySem.W.nsIn K mainGlobals "NUMBERS_OF_MOVES" =some (some (.ref pd)))(d1:∃es ep tk,K.lookup pd=some ⟨.type "dict",none, .dict es ep, #[]⟩/\es.toList=Cr w tk/\tk.map (·.1)=tsC)(d2:(pd==sysModules)=false)
  :∃fd:FuncData,(∀(s:Shared) (v:Value),BindsTo s fd ⟨[v],[]⟩ [("_law_script",v)])/\∀base:Heap,K.In base->base.Ns mainGlobals mg->FnOk l.prog w K mg base CX0 6 fa fd ["_law_script"] (sp1 (rL Xg) (oF Xx) Vd K):=by
 have e:=hfa.symm.trans (PySem.W.mg_of X G a)
 cases e
 have N:∀{x:Str},PySem.W.nsIn K mainGlobals x=some none->mg x=none:=λz=>PySem.W.mg_none_of X G z
 have pz0:Qs "PlaitError" =true:=by decide
 have er0:=KA yb0 yc0 yd0 ye0 yf0 yh0 yg yt
 have iz0_0:Za "PlaitError" "PlaitError" =true:=by decide
 have kx0_0:=Jg yl0_0 yl0_0 yf0 yj0 yk0
 have iz0_1:Za "PlaitError" "NoMove" =false:=by decide
 have kx0_1:=Jg yl0_0 yl0_1 yf1 yj1 yk1
 have iz0_2:Za "PlaitError" "NoLine" =false:=by decide
 have kx0_2:=Jg yl0_0 yl0_2 yf2 yj2 yk2
 have pz1:Qs "NoMove" =true:=by decide
 have er1:=KA yb1 yc1 yd1 ye1 yf1 yh1 yg yt
 have iz1_0:Za "NoMove" "PlaitError" =true:=by decide
 have kx1_0:=Jg yl1_1 yl1_0 yf0 yj0 yk0
 have iz1_1:Za "NoMove" "NoMove" =true:=by decide
 have kx1_1:=Jg yl1_1 yl1_1 yf1 yj1 yk1
 have iz1_2:Za "NoMove" "NoLine" =false:=by decide
 have kx1_2:=Jg yl1_1 yl1_2 yf2 yj2 yk2
 have pz2:Qs "NoLine" =true:=by decide
 have er2:=KA yb2 yc2 yd2 ye2 yf2 yh2 yg yt
 have iz2_0:Za "NoLine" "PlaitError" =true:=by decide
 have kx2_0:=Jg yl2_2 yl2_0 yf0 yj0 yk0
 have iz2_1:Za "NoLine" "NoMove" =false:=by decide
 have kx2_1:=Jg yl2_2 yl2_1 yf1 yj1 yk1
 have iz2_2:Za "NoLine" "NoLine" =true:=by decide
 have kx2_2:=Jg yl2_2 yl2_2 yf2 yj2 yk2
 have y0:Dg K [("PlaitError",E0),("NoMove",E1),("NoLine",E2)]=true:=by
  unfold Dg
  simp only[List.all_cons,List.all_nil,Bool.and_true,Bool.and_self,beq_self_eq_true,Bool.not_true,Bool.not_false,Bool.false_or,Bool.true_or,pz0,ya0,er0,Vh yi0,pz1,ya1,er1,Vh yi1,pz2,ya2,er2,Vh yi2,iz0_0,kx0_0.1,kx0_0.2,iz0_1,kx0_1.1,kx0_1.2,iz0_2,kx0_2.1,kx0_2.2,iz1_0,kx1_0.1,kx1_0.2,iz1_1,kx1_1.1,kx1_1.2,iz1_2,kx1_2.1,kx1_2.2,iz2_0,kx2_0.1,kx2_0.2,iz2_1,kx2_1.1,kx2_1.2,iz2_2,kx2_2.1,kx2_2.2]
 have Y:Ecs XR K mg:=Co (cs:=[("PlaitError",E0),("NoMove",E1),("NoLine",E2)]) y0 (λp hp=>by
  simp only[List.mem_cons,List.not_mem_nil,or_false] at hp
  rcases hp with rfl |rfl |rfl
  ·exact PySem.W.mg_of X G x0
  ·exact PySem.W.mg_of X G x1
  ·exact PySem.W.mg_of X G x2)
 have Wc:Cds l.prog w K mg:=⟨pd,PySem.W.mg_of X G d0,by
  obtain⟨es,ep,tk,h1,h2,h3⟩:=d1
  have hn:(tk.map (·.1.1)).Nodup:=by
   have e:tk.map (·.1.1)=(tk.map (·.1)).map (·.1):=by rw[List.map_map];rfl
   rw[e,h3];decide+kernel
  exact h3▸FV tk d2 h1 h2 hn⟩
 have Z:Blt mg:=⟨N z1,N z2,N z3,N z4,N z5,N z6,N z7,N z8,⟨_,PySem.W.mg_of X G w0,_,rfl⟩⟩
 refine⟨PySem.W.fnOf "law" "law" (Yk QS) (XY QS) (Xk QS) .none kV dc pm an cd ct,λs v=>.of_eq rfl,λbase _ _=>?_⟩
 have g_cell:=Du (P:=l.prog) (w:=w) (base:=base) D9 Y Wc Z
 have g_mix:=Ba (P:=l.prog) (w:=w) (base:=base) D10 Y Wc Z
 have g_row:=CS (P:=l.prog) (w:=w) (base:=base) D11 g_cell g_mix Y Wc Z
 have g_number:=KN (P:=l.prog) (w:=w) (base:=base) D13 Y Wc Z
 have g_made:=Dr (P:=l.prog) (w:=w) (base:=base) D14 g_number Y Wc Z
 have g_sign_word:=JT (P:=l.prog) (w:=w) (base:=base) D1 Y Wc Z
 have g_show_move:=JK (P:=l.prog) (w:=w) (base:=base) D2 g_sign_word Y Wc Z
 have g_words_of:=Vx (P:=l.prog) (w:=w) (base:=base) D3 Y Wc Z
 have g_read_choice:=Qy (P:=l.prog) (w:=w) (base:=base) D8 Y Wc Z
 have g_read_sign:=Jz (P:=l.prog) (w:=w) (base:=base) D5 Y Wc Z
 have g_ends_of_move:=Qb (P:=l.prog) (w:=w) (base:=base) D7 g_read_choice g_read_sign Y Wc Z
 have g_read_number:=QA (P:=l.prog) (w:=w) (base:=base) D4 Y Wc Z
 have g_read_move:=JP (P:=l.prog) (w:=w) (base:=base) D6 g_words_of g_ends_of_move g_read_number Y Wc Z
 have g_read:=Dx (P:=l.prog) (w:=w) (base:=base) D12 g_read_move Y Wc Z
 have g_alike:=GI (P:=l.prog) (w:=w) (base:=base) D15 Y Wc Z
 have g_asked:=GR (P:=l.prog) (w:=w) (base:=base) D16 g_show_move g_read g_alike Y Wc Z
 exact C9 (P:=l.prog) (w:=w) (base:=base) (Qj (st:=QS) l0 c k) g_row g_made g_asked Y Wc Z
theorem Ee {l:PySem.W.OpenLaw}{q:Program}{loose:List Str}{XP:(Str->Option Value)->Heap->Prop}{YP:World->Heap->Prop}{d:DefRec}{K:Params->PySem.W.Frag}(hn:l.most=some 63)(hdf:d.params.defaults=[])
  (hY:∀(w:World) (h:Heap),YP w h->(K w.params).In h)
  (F:∀(w:World) (mg:Str->Option Value) (fa:Addr) (h:Heap),(K w.params).In h->h.Ns mainGlobals mg->mg d.name=some (.ref fa)->
   ∃fd:FuncData,(∀(s:Shared) (u:Value),BindsTo s fd ⟨[u],[]⟩ [("_law_script",u)])/\∀base:Heap,(K w.params).In base->base.Ns mainGlobals mg->FnOk l.prog w (K w.params) mg base CX0 6 fa fd ["_law_script"] (sp1 (rL Xg) (oF Xx) Vd (K w.params))):
  PySem.W.WalkO q loose XP YP l.row.toRowW d [] (λf vs=>PySem.call f vs):=
 L2.DA (n:=63) (k:=6) (x:="_law_script") (CX:=λ_=>CX0) (sp:=λw=>sp1 (rL Xg) (oF Xx) Vd (K w.params)) hn (by decide) hdf ⟨rfl,by decide,by decide⟩ hY F (λ_ _ a ns hl _ hS=>⟨.ref a,ns,true,rfl,⟨a,_,rfl,hS,Vb ns⟩,Gd ns hl,λv C H' w m ho=>ho.2⟩) λ_ _ _ _ _ z=>z
end My
open PySem PySem.W PyProof.Rows
set_option maxRecDepth 100000 in
set_option maxHeartbeats 0 in
theorem PySem.Challenge.cw_plait_k93_moves_as_lines_holds : PySem.Challenge.rw_plait_k93_moves_as_lines.Holds := by
  w_on; o_law; k_head; (case hw => w_witness2)
  k_fill
  refine My.Ee (l := PySem.Challenge.rw_plait_k93_moves_as_lines) rfl rfl (fun w h Y => PySem.W.kIn_of Y) ?F
  case F =>
    intro w mg fa h KX G hmg
    refine' My.CD KX G hmg (My.GW KX G (by intros; rfl) ?a1 ?l1 ?c1 ?k1) (My.GW KX G (by intros; rfl) ?a2 ?l2 ?c2 ?k2) (My.GW KX G (by intros; rfl) ?a3 ?l3 ?c3 ?k3) (My.GW KX G (by intros; rfl) ?a4 ?l4 ?c4 ?k4) (My.GW KX G (by intros; rfl) ?a5 ?l5 ?c5 ?k5) (My.GW KX G (by intros; rfl) ?a6 ?l6 ?c6 ?k6) (My.DP KX G (by intros; rfl) ?a7 ?l7 ?c7 ?k7) (My.B0 KX G (by intros; rfl) ?a8 ?l8 ?c8 ?k8) (My.DP KX G (by intros; rfl) ?a9 ?l9 ?c9 ?k9) (My.DP KX G (by intros; rfl) ?a10 ?l10 ?c10 ?k10) (My.B0 KX G (by intros; rfl) ?a11 ?l11 ?c11 ?k11) (My.GW KX G (by intros; rfl) ?a12 ?l12 ?c12 ?k12) (My.DP KX G (by intros; rfl) ?a13 ?l13 ?c13 ?k13) (My.DP KX G (by intros; rfl) ?a14 ?l14 ?c14 ?k14) (My.DP KX G (by intros; rfl) ?a15 ?l15 ?c15 ?k15) (My.GW KX G (by intros; rfl) ?a16 ?l16 ?c16 ?k16) ?a17 ?l17 ?c17 ?k17 ?z1 ?z2 ?z3 ?z4 ?z5 ?z6 ?z7 ?z8 ?w0 ?x0 ?x1 ?x2 ?yg ?yt ?ya0 ?yb0 ?yc0 ?yd0 ?ye0 ?yf0 ?yh0 ?yi0 ?yj0 ?yk0 ?ya1 ?yb1 ?yc1 ?yd1 ?ye1 ?yf1 ?yh1 ?yi1 ?yj1 ?yk1 ?ya2 ?yb2 ?yc2 ?yd2 ?ye2 ?yf2 ?yh2 ?yi2 ?yj2 ?yk2 ?yl0_0 ?yl0_1 ?yl0_2 ?yl1_0 ?yl1_1 ?yl1_2 ?yl2_0 ?yl2_1 ?yl2_2 ?d0 ?d1 ?d2
    (case a1 => k_is); (case l1 => k_is); (case c1 => k_is); (case k1 => k_is); (case a2 => k_is); (case l2 => k_is); (case c2 => k_is); (case k2 => k_is); (case a3 => k_is); (case l3 => k_is); (case c3 => k_is); (case k3 => k_is); (case a4 => k_is); (case l4 => k_is); (case c4 => k_is); (case k4 => k_is); (case a5 => k_is); (case l5 => k_is); (case c5 => k_is); (case k5 => k_is); (case a6 => k_is); (case l6 => k_is); (case c6 => k_is); (case k6 => k_is); (case a7 => k_is); (case l7 => k_is); (case c7 => k_is); (case k7 => k_is); (case a8 => k_is); (case l8 => k_is); (case c8 => k_is); (case k8 => k_is); (case a9 => k_is); (case l9 => k_is); (case c9 => k_is); (case k9 => k_is); (case a10 => k_is); (case l10 => k_is); (case c10 => k_is); (case k10 => k_is); (case a11 => k_is); (case l11 => k_is); (case c11 => k_is); (case k11 => k_is); (case a12 => k_is); (case l12 => k_is); (case c12 => k_is); (case k12 => k_is); (case a13 => k_is); (case l13 => k_is); (case c13 => k_is); (case k13 => k_is); (case a14 => k_is); (case l14 => k_is); (case c14 => k_is); (case k14 => k_is); (case a15 => k_is); (case l15 => k_is); (case c15 => k_is); (case k15 => k_is); (case a16 => k_is); (case l16 => k_is); (case c16 => k_is); (case k16 => k_is); (case a17 => k_is); (case l17 => k_is); (case c17 => k_is); (case k17 => k_is); (case z1 => k_is); (case z2 => k_is); (case z3 => k_is); (case z4 => k_is); (case z5 => k_is); (case z6 => k_is); (case z7 => k_is); (case z8 => k_is); (case w0 => k_is); (case x0 => k_is); (case x1 => k_is); (case x2 => k_is); (case yg => k_is); (case yt => k_is); (case ya0 => k_exc); (case yb0 => k_is); (case yc0 => k_is); (case yd0 => k_is); (case ye0 => k_is); (case yf0 => k_is); (case yh0 => k_is); (case yi0 => k_is); (case yj0 => k_is); (case yk0 => k_is); (case ya1 => k_exc); (case yb1 => k_is); (case yc1 => k_is); (case yd1 => k_is); (case ye1 => k_is); (case yf1 => k_is); (case yh1 => k_is); (case yi1 => k_is); (case yj1 => k_is); (case yk1 => k_is); (case ya2 => k_exc); (case yb2 => k_is); (case yc2 => k_is); (case yd2 => k_is); (case ye2 => k_is); (case yf2 => k_is); (case yh2 => k_is); (case yi2 => k_is); (case yj2 => k_is); (case yk2 => k_is); (case yl0_0 => k_is); (case yl0_1 => k_is); (case yl0_2 => k_is); (case yl1_0 => k_is); (case yl1_1 => k_is); (case yl1_2 => k_is); (case yl2_0 => k_is); (case yl2_1 => k_is); (case yl2_2 => k_is); (case d0 => k_is); (case d1 => exact ⟨_, _, [(("turn", 2), _, _), (("curl", 3), _, _), (("uncurl", 2), _, _), (("lay", 6), _, _), (("unlay", 4), _, _), (("pass", 6), _, _)], rfl, rfl, rfl⟩); (case d2 => rfl)
