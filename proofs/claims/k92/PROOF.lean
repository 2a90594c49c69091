import PyProof.Rows.All
import Wide.All
import OpenK.AllK
import Wide.FinOn
import Lean
import PyProof.EqAt
import PyProof.EqKinds
import PyProof.TupleCall
import KE.KIntText
import PySem.Challenge.RW_plait_k92_tables_and_colours
set_option Elab.async false
set_option linter.all false
set_option maxRecDepth 100000
set_option maxHeartbeats 4000000
namespace L2
open PySem PySem.Spec PyProof.Rows
noncomputable abbrev Key:=Sum Int Str
noncomputable def Gj:Key->Value->Bool
 | .inl k,v=>Value.isInt k v
 | .inr x,v=>Value.isStrOf x v
noncomputable def IY (w:World):Key->Int
 | .inl k=>hashInt k
 | .inr x=>hashStr w x
theorem X7:∀{k:Key}{v:Value},Gj k v=true->(∃i t,k=Sum.inl i/\v=Value.int i t)∨(∃x t,k=Sum.inr x/\v=Value.str x t)
 | .inl i,v,h=>by
  obtain⟨t,e⟩:=Value.isInt_shape (k:=i) (v:=v) h
  exact .inl ⟨i,t,rfl,e⟩
 | .inr x,v,h=>by
  obtain⟨t,e⟩:=Value.isStrOf_shape (x:=x) (v:=v) h
  exact .inr ⟨x,t,rfl,e⟩
theorem GS (i:Int)(t:Tok):Gj (.inl i) (.int i t)=true:=by simp[Gj,Value.isInt]
theorem G1 (x:Str)(t:Tok):Gj (.inr x) (.str x t)=true:=by simp[Gj,Value.isStrOf]
theorem Hs (a b:Int):decide ((Sum.inl a:Key)=Sum.inl b)=(a==b):=by
 by_cases e:a=b
 ·subst e;simp
 ·have h:¬(Sum.inl a:Key)=Sum.inl b:=λq=>e (Sum.inl.inj q)
  rw[decide_eq_false h]
  exact(beq_eq_false_iff_ne.mpr e).symm
theorem EQ (a b:Str):decide ((Sum.inr a:Key)=Sum.inr b)=decide (a=b):=by
 by_cases e:a=b
 ·subst e;simp
 ·have h:¬(Sum.inr a:Key)=Sum.inr b:=λq=>e (Sum.inr.inj q)
  rw[decide_eq_false h,decide_eq_false e]
theorem Hd (a:Int)(b:Str):decide ((Sum.inl a:Key)=Sum.inr b)=false:=decide_eq_false (λq=>nomatch q)
theorem EV (a:Str)(b:Int):decide ((Sum.inr a:Key)=Sum.inl b)=false:=decide_eq_false (λq=>nomatch q)
noncomputable def Za (prog:Program)(w:World):PySem.KeyKind prog w Key where
 is:=Gj
 hash:=IY w
 inj:=λv a b ha hb=>by
  rcases X7 ha with⟨i,t,rfl,rfl⟩ | ⟨x,t,rfl,rfl⟩
  ·rcases X7 hb with⟨j,u,rfl,e⟩ | ⟨y,u,rfl,e⟩
   ·injection e with e1 _;rw[e1]
   ·exact nomatch e
  ·rcases X7 hb with⟨j,u,rfl,e⟩ | ⟨y,u,rfl,e⟩
   ·exact nomatch e
   ·injection e with e1 _;rw[e1]
 byValue:=λk v h=>by
  rcases X7 h with⟨i,t,rfl,rfl⟩ | ⟨x,t,rfl,rfl⟩<;> rfl
 pyHash:=λhv h=>by
  rcases X7 hv with⟨i,t,rfl,rfl⟩ | ⟨x,t,rfl,rfl⟩
  ·exact wpAny_pyHash_int h
  ·exact wpAny_pyHash_str h
 eqBool:=λhu hv h=>by
  rcases X7 hu with⟨i,t,rfl,rfl⟩ | ⟨x,t,rfl,rfl⟩
  ·rcases X7 hv with⟨j,u,rfl,rfl⟩ | ⟨y,u,rfl,rfl⟩
   ·rw[Hs] at h;exact wpAny_eqBool_int h
   ·rw[Hd] at h;exact SeqAt.EqAt.int_str i t y u _ _ _ _ h
  ·rcases X7 hv with⟨j,u,rfl,rfl⟩ | ⟨y,u,rfl,rfl⟩
   ·rw[EV] at h;exact SeqAt.EqAt.str_int x t j u _ _ _ _ h
   ·rw[EQ] at h;exact wpAny_eqBool_str h
 «strs»:=λk x t v h=>by
  rcases X7 h with⟨i,u,rfl,e⟩ | ⟨y,u,rfl,e⟩
  ·exact nomatch e
  ·injection e with e1 _
   subst e1
   cases v<;> rfl
theorem U1 (prog:Program)(w:World)(i:Int)(t:Tok):(Za prog w).is (.inl i) (.int i t)=true:=GS i t
theorem Kg (prog:Program)(w:World)(x:Str)(t:Tok):(Za prog w).is (.inr x) (.str x t)=true:=G1 x t
inductive V where
 |non |bl (b:Bool) |int (i:Int) |str (x:Str) |byt (b:Array UInt8) |flt (b:UInt64) |ref (a:Addr) |ty (n:String)
 deriving DecidableEq
noncomputable def X8:V->Value->Prop
 | .non,u=>u=Value.none
 | .bl b,u=>u=Value.bool b
 | .int i,u=>∃ t,u=Value.int i t
 | .str x,u=>∃ t,u=Value.str x t
 | .byt b,u=>∃ t,u=Value.bytes b t
 | .flt b,u=>∃ t,u=Value.float b t
 | .ref a,u=>u=Value.ref a
 | .ty n,u=>u=Value.type n
noncomputable abbrev XT:List V->List Value->Prop:=Paired X8
theorem XT.length {xs:List V}{us:List Value}(r:XT xs us):xs.length=us.length:=Paired.length r
theorem XT.get:∀{xs:List V}{us:List Value}{i:Nat}{x:V},XT xs us->xs[i]?=some x->∃u,us[i]?=some u/\X8 x u
 |_,_,_,_, .nil,e=>by simp at e
 |_,_,0,_, .cons r _,e=>by simp at e;subst e;exact⟨_,rfl,r⟩
 |_,_,i+1,x, .cons _ t,e=>by
  obtain⟨u,h1,h2⟩:=XT.get (i:=i) (x:=x) t (by simpa using e)
  exact⟨u,by simpa using h1,h2⟩
theorem XT.set {x:V}{u:Value}(r:X8 x u):∀{xs:List V}{us:List Value} (i:Nat),XT xs us->XT (xs.set i x) (us.set i u)
 |_,_,_, .nil=>.nil
 |_,_,0, .cons _ t=>.cons r t
 |_,_,i+1, .cons q t=>.cons q (XT.set r i t)
theorem XT.append:∀{xs ys:List V}{us ws:List Value},XT xs us->XT ys ws->XT (xs++ys) (us++ws):=λp s=>by
 induction p with
 |nil=>exact s
 |cons r _ ih=>exact .cons r ih
theorem XT.take:∀{xs:List V}{us:List Value} (n:Nat),XT xs us->XT (xs.take n) (us.take n)
 |_,_,0,_=>.nil
 |_,_,_+1, .nil=>.nil
 |_,_,n+1, .cons r t=>.cons r (XT.take n t)
theorem XT.drop:∀{xs:List V}{us:List Value} (n:Nat),XT xs us->XT (xs.drop n) (us.drop n)
 |_,_,0,r=>r
 |_,_,_+1, .nil=>.nil
 |_,_,n+1, .cons _ t=>XT.drop n t
noncomputable def Ca:Option V->Option Value->Prop
 |some v,some u=>X8 v u
 |none,none=>True
 |_,_=>False
noncomputable def KV {κ:Type}:List (κ×V)->List (κ×Value)->Prop:=Paired λ(p:κ×V) (q:κ×Value)=>p.1=q.1/\X8 p.2 q.2
noncomputable def kV:Key->V
 | .inl i=>.int i
 | .inr x=>.str x
inductive HO where
 /-- a list -/
 |lst (xs:List V)
 /-- a tuple (never changes) -/
 |tup (xs:List V)
 /-- a dict whose keys are ints and texts; one whose keys are tuples of ints and texts (the empty one is both) -/
 |dK (kvs:List (Key×V)) |dT (kvs:List (List Key×V))
 /-- a set of ints: its members, its size -/
 |set (S:Int->Bool) (n:Nat)
 /-- an instance of the class at C, its dict at dx, its attributes -/
 |ins (C dx:Addr) (fs:List (Str×V))
 /-- the dict of the instance at x -/
 |own (x:Addr)
 /-- the dict of an exception -/
 |xd (fs:List (Str×V))
 /-- a bound method, f of x -/
 |met (f x:Addr)
 /-- a range object lo, lo + 1, .. below hi -/
 |rng (lo hi:Int)
 /-- a thing that is known to the object (the script; a dict while a loop walks it): read, never written while it is so -/
 |frz (o:Obj) (u:HO)
 /-- a code object's table -/
 |tbl (ps:Array Value)
 /-- any other thing, by what is true of its one object (a def of one's own: SetO a S n:=HO.ext λh=>..) -/
 |ext (φ:Heap->Prop)
noncomputable abbrev Hp:=Addr->Option HO
noncomputable def upd (H:Hp)(a:Addr)(o:HO):Hp:=λb=>if b=a then some o else H b
theorem Yf {H:Hp}{a:Addr}{o:HO}:upd H a o a=some o:=by unfold upd;rw[if_pos rfl]
theorem Xw {H:Hp}{a b:Addr}{o:HO}(h:b≠a):upd H a o b=H b:=by unfold upd;rw[if_neg h]
theorem XC {H:Hp}{a b:Addr}{o:HO}(h:H a=some o)(h':H b=none):a≠b:=by
 intro e;subst e;rw[h] at h';cases h'
noncomputable def V9 (h:Heap)(a:Addr)(items:Array Value):Prop:=∃ o,h.get? a=some o/\(o.cls= .type "tuple" /\o.dict=none)/\∃n,o.data= .seq items n
theorem V9.t {h:Heap}{a:Addr}{items:Array Value}(x:V9 h a items):IsTup h a items:=let ⟨o,ho,c,r⟩:=x;⟨o,ho,c.1,r⟩
theorem V9.new (h:Heap)(items:Array Value):V9 (h.push {cls:=.type "tuple",data:=.seq items}) h.objs.size items:=⟨_,Heap.get?_push_size _ rfl,⟨rfl,rfl⟩,_,rfl⟩
section
variable (P:Program)(w:World)
noncomputable def YU (H:Hp)(h:Heap)(a:Addr):HO->Prop
 | .lst xs=>xs.length<=sizeLine/\∃(its:List Value) (n:Nat),XT xs its/\h.get? a=some {cls:=.type "list",data:=.seq its.toArray n}
 | .tup xs=>xs.length<=sizeLine/\∃its:List Value,XT xs its/\V9 h a its.toArray
 | .dK kvs=>kvs.length<=sizeLine/\(a==sysModules)=false/\∃vs,KV kvs vs/\h.DictOf (Za P w) a vs
 | .dT kvs=>kvs.length<=sizeLine/\(a==sysModules)=false/\∃xs:List (List Key×Addr×Value),
   Paired (λ(p:List Key×V) (q:List Key×Addr×Value)=>p.1=q.1/\H q.2.1=some (.tup (p.1.map kV))/\X8 p.2 q.2.2) kvs xs/\
   ∃o es ep,h.get? a=some o/\o.ExactDict/\o.data= .dict es ep/\es.toList=xs.map (entryOfKey (tupleKind (Za P w)))/\(xs.map (·.1)).Nodup
 | .set S n=>h.SetOf (intKind P w) a S n
 | .ins C dx fs=>H dx=some (.own a)/\fs.length<=1000/\dx≠a/\h.get? a=some (PySem.W.instObj C dx)/\
   ∃mA,h.Ns1 dx mA/\(∀f,Ca (fs.lookup f) (mA f))/\PySem.Within mA (fs.map (·.1))
 | .own _=>∃ o,h.get? a=some o
 | .xd fs=>∃ mA,h.Ns1 a mA/\∀f,Ca (fs.lookup f) (mA f)
 | .rng lo hi=>∃ t u v,h.get? a=some {cls:=.type "range",data:=.fields #[.int lo t, .int hi u, .int 1 v]}
 | .frz o u=>h.get? a=some o/\YU H h a u
 | .tbl ps=>h.get? a=some {cls:=.none,data:=.fields ps}
 | .met f x=>h.get? a=some (PySem.W.methodObj (.ref f) (.ref x))
 | .ext φ=>φ h/\(∃o,h.get? a=some o)/\∀h1 h2:Heap,φ h1->(∀o,h1.get? a=some o->h2.get? a=some o)->φ h2
noncomputable def HOk (H:Hp)(h:Heap):Prop:=∀ a o,H a=some o->YU P w H h a o
end
section
variable {P:Program}{w:World}{H H':Hp}{h h':Heap}{a:Addr}{o:HO}
theorem YU.lt (x:YU P w H h a o):a<h.objs.size:=by
 cases o with
 |lst xs=>obtain⟨_,_,_,_,e⟩:=x;exact Heap.lt_size e
 |tup xs=>obtain⟨_,_,_,p⟩:=x;exact p.t.lt
 |dK kvs=>obtain⟨_,_,_,_,o,_,_,e,_⟩:=x;exact Heap.lt_size e
 |dT kvs=>obtain⟨_,_,_,_,o,_,_,e,_⟩:=x;exact Heap.lt_size e
 |set S n=>obtain⟨o,_,_,_,e,_⟩:=x;exact Heap.lt_size e
 |ins C dx fs=>obtain⟨_,_,_,e,_⟩:=x;exact Heap.lt_size e
 |own y=>obtain⟨_,e⟩:=x;exact Heap.lt_size e
 |xd fs=>obtain⟨_,⟨_,_,_,e,_⟩,_⟩:=x;exact Heap.lt_size e
 |rng lo hi=>obtain⟨_,_,_,e⟩:=x;exact Heap.lt_size e
 |frz ob u=>obtain⟨e,_⟩:=x;exact Heap.lt_size e
 |tbl ps=>exact Heap.lt_size (show h.get? a=some _ from x)
 |met f y=>exact Heap.lt_size (show h.get? a=some _ from x)
 |ext φ=>obtain⟨_,⟨_,e⟩,_⟩:=x;exact Heap.lt_size e
theorem Paired.mapP {α β:Type}{F G:α->β->Prop}:∀{l₁:List α}{l₂:List β},Paired F l₁ l₂->(∀a b,F a b->G a b)->Paired G l₁ l₂:=λp f=>by
 induction p with
 |nil=>exact .nil
 |cons r _ ih=>exact .cons (f _ _ r) ih
theorem YU.stay (x:YU P w H h a o)(k:∀b u,(b=a∨H b=some (.own a))->h.get? b=some u->h'.get? b=some u)
  (ho:∀b,H b=some (.own a)->H' b=some (.own a))(ht:∀b xs,H b=some (.tup xs)->H' b=some (.tup xs)):YU P w H' h' a o:=by
 induction o with
 |lst xs=>obtain⟨z,its,n,r,e⟩:=x;exact⟨z,its,n,r,k _ _ (.inl rfl) e⟩
 |tup xs=>obtain⟨z,its,r,ob,e,c⟩:=x;exact⟨z,its,r,ob,k _ _ (.inl rfl) e,c⟩
 |dK kvs=>obtain⟨z,y,vs,r,ob,es,ep,e,c⟩:=x;exact⟨z,y,vs,r,ob,es,ep,k _ _ (.inl rfl) e,c⟩
 |dT kvs=>
  obtain⟨z,y,xs,r,ob,es,ep,e,c⟩:=x
  exact⟨z,y,xs,Paired.mapP r λp q z=>⟨z.1,ht _ _ z.2.1,z.2.2⟩,ob,es,ep,k _ _ (.inl rfl) e,c⟩
 |set S n=>obtain⟨ob,es,ep,t,e,c⟩:=x;exact⟨ob,es,ep,t,k _ _ (.inl rfl) e,c⟩
 |ins C dx fs=>
  obtain⟨d,z,ne,e,mA,⟨od,es,ep,e2,c⟩,r⟩:=x
  exact⟨ho _ d,z,ne,k _ _ (.inl rfl) e,mA,⟨od,es,ep,k _ _ (.inr d) e2,c⟩,r⟩
 |own y=>obtain⟨ob,e⟩:=x;exact⟨ob,k _ _ (.inl rfl) e⟩
 |xd fs=>obtain⟨mA,⟨od,es,ep,e,c⟩,r⟩:=x;exact⟨mA,⟨od,es,ep,k _ _ (.inl rfl) e,c⟩,r⟩
 |rng lo hi=>obtain⟨t,u,v,e⟩:=x;exact⟨t,u,v,k _ _ (.inl rfl) e⟩
 |frz ob u ih=>obtain⟨e,q⟩:=x;exact⟨k _ _ (.inl rfl) e,ih q⟩
 |tbl ps=>
  have e:h.get? a=some {cls:=.none,data:=.fields ps}:=x
  show h'.get? a=some {cls:=.none,data:=.fields ps}
  exact k a _ (.inl rfl) e
 |met f y=>
  have e:h.get? a=some (PySem.W.methodObj (.ref f) (.ref y)):=x
  show h'.get? a=some (PySem.W.methodObj (.ref f) (.ref y))
  exact k a _ (.inl rfl) e
 |ext φ=>obtain⟨p,⟨o,e⟩,st⟩:=x;exact⟨st _ _ p λo q=>k _ _ (.inl rfl) q,⟨o,k _ _ (.inl rfl) e⟩,st⟩
theorem HOk.lt (x:HOk P w H h)(e:H a=some o):a<h.objs.size:=(x a o e).lt
theorem HOk.fresh (x:HOk P w H h)(e:h.objs.size<=a):H a=none:=by
 cases q:H a with
 |none=>rfl
 |some u=>exact absurd (Nat.lt_of_lt_of_le (x.lt q) e) (Nat.lt_irrefl _)
theorem HOk.kept (x:HOk P w H h)(k:∀b u,h.get? b=some u->h'.get? b=some u):HOk P w H h':=λa o e=>
 (x a o e).stay (λb u _ q=>k b u q) (λ_ q=>q) λ_ _ q=>q
theorem HOk.laid (x:HOk P w H h)(k:∀b u,h.get? b=some u->h'.get? b=some u)(hp:h.objs.size<=a)(new:YU P w (upd H a o) h' a o):HOk P w (upd H a o) h':=λb u e=>by
 have hn:=x.fresh hp
 by_cases hb:b=a
 ·subst hb;rw[Yf] at e;cases e;exact new
 ·rw[Xw hb] at e
  exact(x b u e).stay (λc v _ q=>k c v q) (λc q=>by rw[Xw (XC q hn)];exact q) λc xs q=>by rw[Xw (XC q hn)];exact q
end
noncomputable def Rd (H:Hp)(a:Addr)(u:HO):Prop:=H a=some u∨∃o,H a=some (.frz o u)
theorem Rd.of {H:Hp}{a:Addr}{u:HO}(h:H a=some u):Rd H a u:=.inl h
theorem Rd.ok {P:Program}{w:World}{H:Hp}{h:Heap}{a:Addr}{u:HO}(r:Rd H a u)(x:HOk P w H h):YU P w H h a u:=by
 rcases r with r | ⟨o,r⟩
 ·exact x a u r
 ·obtain⟨_,q⟩:=x a _ r
  exact q
noncomputable def Mut:Option HO->Prop
 |some (.lst _)=>True
 |some (.dK _)=>True
 |some (.dT _)=>True
 |some (.set _ _)=>True
 |some (.ins _ _ _)=>True
 |some (.ext _)=>True
 |_=>False
section
variable {P:Program}{w:World}{H:Hp}{h h':Heap}{x e:Addr}{o':HO}
theorem HOk.write (ok:HOk P w H h)(mu:Mut (H x))(he:e=x∨H e=some (.own x))(k:∀b u,b≠e->h.get? b=some u->h'.get? b=some u)(heo:∃u,h'.get? e=some u)
  (new:YU P w (upd H x o') h' x o'):HOk P w (upd H x o') h':=λb u q=>by
 have nown:∀c y,H c=some (.own y)->c≠x:=λc y r z=>by subst z;rw[r] at mu;exact mu
 have ntup:∀c xs,H c=some (.tup xs)->c≠x:=λc xs r z=>by subst z;rw[r] at mu;exact mu
 by_cases hb:b=x
 ·subst hb;rw[Yf] at q;cases q;exact new
 ·rw[Xw hb] at q
  by_cases hbe:b=e
  ·have q':H b=some (.own x):=by
    rcases he with z |z
    ·exact absurd (hbe.trans z) hb
    ·rw[hbe];exact z
   rw[q] at q';cases q'
   obtain⟨v,hv⟩:=heo
   exact⟨v,by rw[hbe];exact hv⟩
  ·refine(ok b u q).stay (λc v hc r=>k c v ?_ r) (λc r=>by rw[Xw (nown c b r)];exact r) λc xs r=>by rw[Xw (ntup c xs r)];exact r
   rcases hc with rfl |hc
   ·exact hbe
   ·rintro rfl
    rcases he with z |z
    ·exact nown c b hc z
    ·rw[hc] at z;cases z;exact hb rfl
end
structure Un (fs ex:List Addr)(H H':Hp)(h h':Heap):Prop where
 keep:∀b o,h.get? b=some o->H b=none->b∉fs->b∉ex->h'.get? b=some o
 slot:∀b o,h.get? b=some o->H b=none->b∈fs->b∉ex->∃sl,h'.get? b=some {o with slots:=sl}
 free:∀b o,h.get? b=some o->H b=none->b∉ex->H' b=none
 there:∀b o,h.get? b=some o->b∉ex->∃o',h'.get? b=some o'
 tups:∀b xs,H b=some (.tup xs)->H' b=some (.tup xs)
 frzs:∀b o u,H b=some (.frz o u)->H' b=some (.frz o u)
 tbls:∀b ps,H b=some (.tbl ps)->∃more,H' b=some (.tbl (ps++more))
section
variable {fs fs' ex ex':List Addr}{H H1 H2:Hp}{h h1 h2 h':Heap}{a x e:Addr}{o:HO}
theorem Un.any (u:Un fs ex H H1 h h1){b:Addr}{ob:Obj}(q:h.get? b=some ob)(n:H b=none)(hx:b∉ex):∃sl,h1.get? b=some {ob with slots:=sl}:=by
 by_cases hb:b∈fs
 ·exact u.slot b ob q n hb hx
 ·exact⟨ob.slots,u.keep b ob q n hb hx⟩
theorem Un.trans (a:Un fs ex H H1 h h1)(b:Un fs ex H1 H2 h1 h2):Un fs ex H H2 h h2 where
 keep:=λc ob q n hc hx=>b.keep c ob (a.keep c ob q n hc hx) (a.free c ob q n hx) hc hx
 slot:=λc ob q n hc hx=>by
  obtain⟨sl,e1⟩:=a.slot c ob q n hc hx
  obtain⟨sl',e2⟩:=b.slot c _ e1 (a.free c ob q n hx) hc hx
  exact⟨sl',e2⟩
 free:=λc ob q n hx=>by
  obtain⟨o',e1⟩:=a.there c ob q hx
  exact b.free c o' e1 (a.free c ob q n hx) hx
 there:=λc ob q hx=>by
  obtain⟨o',e1⟩:=a.there c ob q hx
  exact b.there c o' e1 hx
 tups:=λc xs q=>b.tups c xs (a.tups c xs q)
 frzs:=λc ob xs q=>b.frzs c ob xs (a.frzs c ob xs q)
 tbls:=λc ps q=>by
  obtain⟨m1,e1⟩:=a.tbls c ps q
  obtain⟨m2,e2⟩:=b.tbls c _ e1
  exact⟨m1++m2,by rw[e2,Array.append_assoc]⟩
theorem Un.kept (k:∀b u,h.get? b=some u->h'.get? b=some u):Un fs ex H H h h':=
 ⟨λb ob q _ _ _=>k b ob q,λb ob q _ _ _=>⟨ob.slots,k b ob q⟩,λ_ _ _ n _=>n,λb ob q _=>⟨ob,k b ob q⟩,λ_ _ q=>q,λ_ _ _ q=>q,λ_ ps q=>⟨#[],by rw[q];simp⟩⟩
theorem Un.refl:Un fs ex H H h h:=Un.kept λ_ _ q=>q
theorem Un.laid (k:∀b u,h.get? b=some u->h'.get? b=some u)(hp:h.objs.size<=a)(hn:H a=none):Un fs ex H (upd H a o) h h' where
 keep:=λb u q _ _ _=>k b u q
 slot:=λb u q _ _ _=>⟨u.slots,k b u q⟩
 free:=λb u q n _=>by rw[Xw (Nat.ne_of_lt (Nat.lt_of_lt_of_le (Heap.lt_size q) hp))];exact n
 there:=λb u q _=>⟨u,k b u q⟩
 tups:=λb xs q=>by rw[Xw (XC q hn)];exact q
 frzs:=λb u xs q=>by rw[Xw (XC q hn)];exact q
 tbls:=λb ps q=>⟨#[],by rw[Xw (XC q hn),q];simp⟩
theorem Un.write (mu:Mut (H x))(he:e=x∨H e=some (.own x))(k:∀b u,b≠e->h.get? b=some u->h'.get? b=some u)(heo:∃u,h'.get? e=some u):Un fs ex H (upd H x o) h h':=by
 have hx:∀b,H b=none->b≠x:=λb n z=>by subst z;rw[n] at mu;exact mu
 have hb:∀b,H b=none->b≠e:=λb n z=>by
  subst z
  rcases he with r |r
  ·exact hx b n r
  ·rw[n] at r;cases r
 have hm:∀b u,H b=some u->¬Mut (some u)->b≠x:=λb u q nm z=>by subst z;rw[q] at mu;exact nm mu
 refine⟨λb u q n _ _=>k b u (hb b n) q,λb u q n _ _=>⟨u.slots,k b u (hb b n) q⟩,λb u q n _=>by rw[Xw (hx b n)];exact n,λb u q _=>?_,
  λb xs q=>by rw[Xw (hm b _ q λz=>z)];exact q,λb u xs q=>by rw[Xw (hm b _ q λz=>z)];exact q,λb ps q=>⟨#[],by rw[Xw (hm b _ q λz=>z),q];simp⟩⟩
 by_cases hbe:b=e
 ·subst hbe;exact heo
 ·exact⟨u,k b u hbe q⟩
theorem Un.mono (u:Un fs ex H H1 h h1)(hs:∀b∈fs,b∈fs')(hx:∀b∈ex,b∈ex'):Un fs' ex' H H1 h h1:=
 ⟨λb ob q n hb he=>u.keep b ob q n (λz=>hb (hs b z)) λz=>he (hx b z),λ_ _ q n _ he=>u.any q n λz=>he (hx _ z),λb ob q n he=>u.free b ob q n λz=>he (hx b z),λb ob q he=>u.there b ob q λz=>he (hx b z),u.tups,u.frzs,u.tbls⟩
end
noncomputable def trk (h:Heap)(H:Hp):List Addr:=(List.range h.objs.size).filter λa=>(H a).isSome
noncomputable def DO (h:Heap)(H:Hp):Heap:=PySem.W.hideAll h (trk h H)
theorem GY (h:Heap)(H:Hp):(DO h H).objs.size=h.objs.size:=PySem.W.hideAll_size _ _
theorem K1 {h:Heap}{H:Hp}{b:Addr}{o:Obj}(e:h.get? b=some o)(n:H b=none):(DO h H).get? b=some o:=
 PySem.W.hideAll_get _ e λhm=>by
  have q:(H b).isSome=true:=(List.mem_filter.mp hm).2
  rw[n] at q;simp at q
theorem Dz {h:Heap}{H:Hp}{b:Addr}{o:Obj}(e:(DO h H).get? b=some o):h.get? b=some o/\H b=none:=by
 have e':h.get? b=some o:=PySem.W.of_hideAll (trk h H) e
 refine⟨e',?_⟩
 cases q:H b with
 |none=>rfl
 |some x=>
  have hm:b∈trk h H:=List.mem_filter.mpr ⟨List.mem_range.mpr (Heap.lt_size e'),by simp[q]⟩
  have z:(DO h H).get? b=none:=PySem.W.hideAll_none (trk h H) hm
  rw[z] at e;cases e
noncomputable def EB (g h:Heap)(L:Addr):List (Addr×Obj):=(List.range h.objs.size).filterMap λa=>if a=L∨(g.get? a).isSome=true then none else(h.get? a).map λo=>(a,o)
noncomputable def Y3 (g h:Heap)(L d:Addr):List (Addr×Obj):=(EB g h L).filter λp=>decide (p.1≠d)
structure Mod (K:PySem.W.Frag)(mg:Str->Option Value)(base:Heap):Prop where
 kin:K.In base
 glob:base.Ns mainGlobals mg
 blt:∃mb,base.Ns builtinsNs mb/\∀x:Str,x≠ "__name__" ->mb x=bootBuiltins x
 nolimit:base.NoLimit
structure Cx where
 prog:Program
 w:World
 K:PySem.W.Frag
 mg:Str->Option Value
 base:Heap
 A:Around
 N:List Str
 s₀:Shared
 H₀:Hp
 env:Env
 outer:List Env
 stack:List Env
 ex:List Addr
 fn:Str->Bool
 calm:Bool
 pn:List (Addr×Obj)
 xe:Value->Shared->Prop
noncomputable def frs (l:List Env):List Addr:=l.filterMap (·.frame)
noncomputable abbrev Cx.fs (X:Cx):List Addr:=frs X.outer
noncomputable def Vis (sc:Scope)(x:Str):Prop:=sc.names.lookup x=some .local∨sc.names.lookup x=some .cell∨sc.names.lookup x=some .free
noncomputable def Loc (sc:Scope)(x:Str):Prop:=sc.names.lookup x=some .local∨sc.names.lookup x=some .cell
noncomputable def IS (env:Env)(h:Heap)(m:Str->Option Value)(x:Str)(u:Value):Prop:=
 (env.kindOf x=some .local/\m x=some u)∨((env.kindOf x=some .cell∨env.kindOf x=some .free)/\∃c,env.cells.lookup x=some c/\h.IsCell c (some u))
structure Cx.Ok (X:Cx):Prop where
 mod:Mod X.K X.mg X.base
 kind:X.env.scope.kind= .function
 glob:X.env.globals=mainGlobals
 blt:X.env.builtins=builtinsNs
 above:X.s₀.heap.objs.size<=X.env.locals
 inj:∀x y c,X.env.cells.lookup x=some c->X.env.cells.lookup y=some c->x=y
 has:∀x,(X.env.kindOf x=some .cell∨X.env.kindOf x=some .free)->∃c,X.env.cells.lookup x=some c
 cab:∀x c,X.fn x=true->X.env.cells.lookup x=some c->X.s₀.heap.objs.size<=c
 hd:X.calm=true->X.A.handled=none
 frames:X.A.frames=some X.stack
 stk:X.stack=X.outer∨(X.stack=X.env::X.outer/\X.env.frame=some X.env.locals)
 exf:∀b∈X.ex,b≠X.env.locals/\∀x c,X.env.cells.lookup x=some c->c≠b
 bs:∀b o,X.base.get? b=some o->X.s₀.heap.get? b=some o/\X.H₀ b=none
 bsz:X.base.objs.size<=X.s₀.heap.objs.size
 noex:∀b o,X.base.get? b=some o->b∉X.ex
 exfs:∀b∈X.ex,b∉X.fs
 funs:X.s₀.heap.FunFrames X.base X.outer
 frf:∀b∈X.fs,X.H₀ b=none
structure Inv (X:Cx)(pins:List (Addr×Obj))(σ:List (Option V))(H:Hp)(s:Shared):Prop where
 ok:X.Ok
 os:s.os=X.s₀.os
 bare:AllBare s.gens
 base:Un X.fs X.ex X.H₀ H X.s₀.heap s.heap
 loc:∃m,s.heap.Ns X.env.locals m/\∀(i:Nat) (x:Str) (v:V),X.N[i]?=some x->σ[i]?=some (some v)->Vis X.env.scope x->∃u,X8 v u/\IS X.env s.heap m x u
 cell:∀x c,X.env.cells.lookup x=some c->∃v,s.heap.IsCell c v
 free:H X.env.locals=none
 freeC:∀x c,X.env.cells.lookup x=some c->H c=none
 pin:∀p∈X.pn++pins,s.heap.get? p.1=some p.2/\H p.1=none/\p.1≠X.env.locals/\p.1∉X.fs/\∀v,p.2.data≠ .cell v
 hok:HOk X.prog X.w H s.heap
 len:σ.length=X.N.length
section
variable {X:Cx}{pins:List (Addr×Obj)}{σ:List (Option V)}{H H':Hp}{s:Shared}{h':Heap}
theorem Cx.Ok.nofr (ok:X.Ok){b:Addr}{o:Obj}(e:X.base.get? b=some o):b∉X.fs:=λhb=>by
 have:=(ok.funs.mem hb).1
 rw[e] at this;cases this
theorem Inv.bs (I:Inv X pins σ H s):∀b o,X.base.get? b=some o->s.heap.get? b=some o/\H b=none:=λb o e=>
 ⟨I.base.keep b o (I.ok.bs b o e).1 (I.ok.bs b o e).2 (I.ok.nofr e) (I.ok.noex b o e),I.base.free b o (I.ok.bs b o e).1 (I.ok.bs b o e).2 (I.ok.noex b o e)⟩
theorem Inv.bk (I:Inv X pins σ H s):∀b o,X.base.get? b=some o->s.heap.get? b=some o:=λb o e=>(I.bs b o e).1
theorem Inv.mod (I:Inv X pins σ H s):Mod X.K X.mg X.base:=I.ok.mod
theorem Inv.kIn (I:Inv X pins σ H s):X.K.In s.heap:=I.ok.mod.kin.keeps I.bk
theorem Inv.nolimit (I:Inv X pins σ H s):s.heap.NoLimit:=I.ok.mod.nolimit.keeps I.bk
theorem Inv.fr (I:Inv X pins σ H s):∃m,Fr X.base X.env.locals s.heap m:=
 let ⟨m,hn,_⟩:=I.loc
 ⟨m,hn,I.bk,Nat.le_trans I.ok.bsz I.ok.above⟩
theorem Inv.lt (I:Inv X pins σ H s):X.env.locals<s.heap.objs.size:=let ⟨_,hn,_⟩:=I.loc;hn.lt
theorem Inv.sz (I:Inv X pins σ H s):X.s₀.heap.objs.size<=s.heap.objs.size:=Nat.le_trans I.ok.above (Nat.le_of_lt I.lt)
theorem Inv.nofs (I:Inv X pins σ H s){a:Addr}(h:s.heap.objs.size<=a):a∉X.fs:=λhb=>by
 obtain⟨_,o,ho,_⟩:=I.ok.funs.mem hb
 exact absurd (Nat.lt_of_lt_of_le (Heap.lt_size ho) (Nat.le_trans I.sz h)) (Nat.lt_irrefl _)
theorem Inv.cne (I:Inv X pins σ H s):∀x c,X.env.cells.lookup x=some c->c≠X.env.locals:=λx c e z=>by
 obtain⟨v,o,ho,hd⟩:=I.cell x c e
 obtain⟨m,⟨o',es,ep,ho',hd',_⟩,_⟩:=I.loc
 rw[z,ho'] at ho;cases ho;rw[hd'] at hd;cases hd
theorem Inv.funs (I:Inv X pins σ H s):s.heap.FunFrames X.base X.outer:=by
 have all:∀(l:List Env),(∀b∈frs l,b∈X.fs)->X.s₀.heap.FunFrames X.base l->s.heap.FunFrames X.base l:=by
  intro l
  induction l with
  |nil=>intro _ _;trivial
  |cons env r ih=>
   intro hs hl
   obtain⟨hk,⟨L,o,hf,hn,ho,hd⟩,hr⟩:=hl
   have hL:L∈X.fs:=hs L (by unfold frs;rw[List.filterMap_cons,hf];exact List.mem_cons_self)
   obtain⟨sl,e⟩:=I.base.slot L o ho (I.ok.frf L hL) hL λz=>I.ok.exfs L z hL
   exact⟨hk,⟨L,_,hf,hn,e,hd⟩,ih (λb hb=>hs b (by unfold frs;rw[List.filterMap_cons,hf];exact List.mem_cons_of_mem _ hb)) hr⟩
 exact all X.outer (λ_ hb=>hb) I.ok.funs
theorem Inv.stack (I:Inv X pins σ H s):s.heap.FunFrames X.base X.stack:=by
 rcases I.ok.stk with e | ⟨e,hf⟩
 ·rw[e];exact I.funs
 ·rw[e]
  obtain⟨m,hn,_⟩:=I.loc
  refine .cons (by rw[I.ok.kind];decide) hf hn ?_ I.funs
  exact Heap.get?_none_of_le (Nat.le_trans I.ok.bsz I.ok.above)
theorem Inv.stkSub (I:Inv X pins σ H s):∀b∈frs X.stack,b∈X.env.locals::X.fs:=λb hb=>by
 rcases I.ok.stk with e | ⟨e,hf⟩
 ·rw[e] at hb;exact List.mem_cons_of_mem _ hb
 ·rw[e] at hb
  unfold frs at hb
  rw[List.filterMap_cons,hf] at hb
  exact hb
theorem Inv.stkFree (I:Inv X pins σ H s):∀b∈frs X.stack,H b=none:=λb hb=>by
 rcases List.mem_cons.mp (I.stkSub b hb) with e |hb
 ·rw[e];exact I.free
 ·obtain⟨_,o,ho,_⟩:=I.ok.funs.mem hb
  exact I.base.free b o ho (I.ok.frf b hb) λz=>I.ok.exfs b z hb
theorem Inv.step {g':Array GenState}{t':Nat}{d':Drawn}{ch:List Addr}(I:Inv X pins σ H s)
  (hch:∀b∈ch,(b∈X.ex∨X.s₀.heap.objs.size<=b)/\b≠X.env.locals/\(∀x c,X.env.cells.lookup x=some c->c≠b)/\∀p∈X.pn++pins,p.1≠b)
  (keep:∀b o,b≠X.env.locals->b∉X.fs->b∉ch->s.heap.get? b=some o->H b=none->h'.get? b=some o)
  (slot:∀b o,b≠X.env.locals->b∈X.fs->b∉ch->s.heap.get? b=some o->H b=none->∃sl,h'.get? b=some {o with slots:=sl})(free:∀b o,b∉ch->s.heap.get? b=some o->H b=none->H' b=none)
  (there:∀b o,b∉ch->s.heap.get? b=some o->∃o',h'.get? b=some o')
  (tups:∀b xs,H b=some (.tup xs)->H' b=some (.tup xs))(frzs:∀b o u,H b=some (.frz o u)->H' b=some (.frz o u))(tbls:∀b ps,H b=some (.tbl ps)->∃more,H' b=some (.tbl (ps++more)))
  (ns:∀m,s.heap.Ns X.env.locals m->h'.Ns X.env.locals m)(hok:HOk X.prog X.w H' h')(hg:AllBare g'):
  Inv X pins σ H' {s with heap:=h',gens:=g',drawn:=d',toks:=t'}:=by
 have neL:∀b o,X.s₀.heap.get? b=some o->b≠X.env.locals:=λb o e=>Nat.ne_of_lt (Nat.lt_of_lt_of_le (Heap.lt_size e) I.ok.above)
 have neC:∀b o,X.s₀.heap.get? b=some o->b∉X.ex->b∉ch:=λb o e hx hb=>by
  rcases(hch b hb).1 with z |z
  ·exact hx z
  ·exact absurd (Nat.lt_of_lt_of_le (Heap.lt_size e) z) (Nat.lt_irrefl _)
 have cellK:∀x c,X.env.cells.lookup x=some c->∀v,s.heap.IsCell c v->h'.IsCell c v:=λx c e v ⟨o,ho,hd⟩=>by
  have nch:c∉ch:=λz=>(hch c z).2.2.1 x c e rfl
  by_cases hc:c∈X.fs
  ·obtain⟨sl,q⟩:=slot c o (I.cne x c e) hc nch ho (I.freeC x c e)
   exact⟨_,q,hd⟩
  ·exact⟨o,keep c o (I.cne x c e) hc nch ho (I.freeC x c e),hd⟩
 refine⟨I.ok,I.os,hg,⟨λb o e n hb hx=>?_,λb o e n hb hx=>?_,λb o e n hx=>?_,λb o e hx=>?_,λb xs e=>tups b xs (I.base.tups b xs e),λb o xs e=>frzs b o xs (I.base.frzs b o xs e),λb ps e=>?_⟩,?_,λx c e=>?_,?_,λx c e=>?_,λp hp=>?_,hok,I.len⟩
 ·exact keep b o (neL b o e) hb (neC b o e hx) (I.base.keep b o e n hb hx) (I.base.free b o e n hx)
 ·obtain⟨sl,e1⟩:=I.base.slot b o e n hb hx
  obtain⟨sl',e2⟩:=slot b _ (neL b o e) hb (neC b o e hx) e1 (I.base.free b o e n hx)
  exact⟨sl',e2⟩
 ·obtain⟨o',e1⟩:=I.base.there b o e hx
  exact free b o' (neC b o e hx) e1 (I.base.free b o e n hx)
 ·obtain⟨o',e1⟩:=I.base.there b o e hx
  exact there b o' (neC b o e hx) e1
 ·obtain⟨m1,e1⟩:=I.base.tbls b ps e
  obtain⟨m2,e2⟩:=tbls b _ e1
  exact⟨m1++m2,by rw[e2,Array.append_assoc]⟩
 ·obtain⟨m,hn,hl⟩:=I.loc
  refine⟨m,ns m hn,λi x v e1 e2 e3=>?_⟩
  obtain⟨u,r,l⟩:=hl i x v e1 e2 e3
  refine⟨u,r,?_⟩
  rcases l with l | ⟨k,c,e,z⟩
  ·exact .inl l
  ·exact .inr ⟨k,c,e,cellK x c e _ z⟩
 ·obtain⟨v,z⟩:=I.cell x c e
  exact⟨v,cellK x c e v z⟩
 ·obtain⟨m,⟨o,_,_,ho,_⟩,_⟩:=I.loc
  exact free _ o (λz=>(hch _ z).2.1 rfl) ho I.free
 ·obtain⟨v,o,ho,hd⟩:=I.cell x c e
  exact free c o (λz=>(hch c z).2.2.1 x c e rfl) ho (I.freeC x c e)
 ·obtain⟨e,n,ne,nf,d⟩:=I.pin p hp
  have nch:p.1∉ch:=λz=>(hch p.1 z).2.2.2 p hp rfl
  exact⟨keep p.1 p.2 ne nf nch e n,free p.1 p.2 nch e n,ne,nf,d⟩
theorem Inv.un {t':Nat}(I:Inv X pins σ H s)(u:Un X.fs [] H H' s.heap h')(hok:HOk X.prog X.w H' h'):Inv X pins σ H' {s with heap:=h',toks:=t'}:=by
 obtain⟨m,⟨o,es,ep,ho,r⟩,_⟩:=id I.loc
 obtain⟨sl,hL⟩:=u.any ho I.free (by simp)
 exact I.step (g':=s.gens) (d':=s.drawn) (ch:=[]) (λ_ z=>nomatch z) (λb o _ hb _ e n=>u.keep b o e n hb (by simp)) (λb o _ hb _ e n=>u.slot b o e n hb (by simp)) (λb o _ e n=>u.free b o e n (by simp)) (λb o _ e=>u.there b o e (by simp)) u.tups u.frzs u.tbls (λm' hm=>by
  obtain⟨o',es',ep',ho',r'⟩:=hm
  rw[ho] at ho';cases ho'
  exact⟨_,es',ep',hL,r'⟩) hok I.bare
theorem Inv.call {g':Array GenState}{t':Nat}{d':Drawn}{ch:List Addr}(I:Inv X pins σ H s)(u:Un (frs X.stack) ch H H' s.heap h')(hok:HOk X.prog X.w H' h')(hg:AllBare g')
  (hch:∀b∈ch,(b∈X.ex∨X.s₀.heap.objs.size<=b)/\b≠X.env.locals/\(∀x c,X.env.cells.lookup x=some c->c≠b)/\∀p∈X.pn++pins,p.1≠b):
  Inv X pins σ H' {s with heap:=h',gens:=g',drawn:=d',toks:=t'}:=by
 obtain⟨m,⟨o,es,ep,ho,r⟩,_⟩:=id I.loc
 obtain⟨sl,hL⟩:=u.any ho I.free λz=>(hch _ z).2.1 rfl
 exact I.step (ch:=ch) hch (λb o hL hb hc e n=>u.keep b o e n (λz=>(List.mem_cons.mp (I.stkSub b z)).elim hL hb) hc) (λb o _ _ hc e n=>u.any e n hc) (λb o hc e n=>u.free b o e n hc) (λb o hc e=>u.there b o e hc) u.tups u.frzs u.tbls (λm' hm=>by
  obtain⟨o',es',ep',ho',r'⟩:=hm
  rw[ho] at ho';cases ho'
  exact⟨_,es',ep',hL,r'⟩) hok hg
theorem Inv.turned {t':Nat}{it:Addr}(I:Inv X pins σ H s)(k:∀b o,b≠it->s.heap.get? b=some o->h'.get? b=some o)(hn:H it=none)(hL:it≠X.env.locals)
  (h1:it∈X.ex∨X.s₀.heap.objs.size<=it)(h2:∀x c,X.env.cells.lookup x=some c->c≠it)(h3:∀p∈X.pn++pins,p.1≠it):Inv X pins σ H {s with heap:=h',toks:=t'}:=by
 have nit:∀b u,H b=some u->b≠it:=λb u e z=>by rw[z,hn] at e;cases e
 refine I.step (g':=s.gens) (d':=s.drawn) (ch:=[it]) (λb hb=>?_) (λb o _ _ hc e _=>k b o (λz=>hc (by simp[z])) e) (λb o _ _ hc e _=>⟨o.slots,k b o (λz=>hc (by simp[z])) e⟩) (λ_ _ _ _ n=>n)
  (λb o hc e=>⟨o,k b o (λz=>hc (by simp[z])) e⟩) (λ_ _ e=>e) (λ_ _ _ e=>e) (λb ps e=>⟨#[],by rw[e];simp⟩) (λm hm=>?_) (λb u e=>?_) I.bare
 ·have e:b=it:=by simpa using hb
  subst e
  exact⟨h1,hL,h2,h3⟩
 ·obtain⟨o,es,ep,ho,r⟩:=hm
  exact⟨o,es,ep,k _ o (Ne.symm hL) ho,r⟩
 ·refine(I.hok b u e).stay (λc v hc q=>k c v ?_ q) (λ_ q=>q) λ_ _ q=>q
  rcases hc with z |z
  ·rw[z];exact nit b u e
  ·exact nit c _ z
theorem Inv.tok (I:Inv X pins σ H s)(t:Nat):Inv X pins σ H {s with toks:=t}:=I.un (h':=s.heap) (t':=t) Un.refl I.hok
theorem Inv.kept {t':Nat}(I:Inv X pins σ H s)(k:∀b u,s.heap.get? b=some u->h'.get? b=some u):Inv X pins σ H {s with heap:=h',toks:=t'}:=I.un (Un.kept k) (I.hok.kept k)
theorem Inv.laid {a:Addr}{o:HO}{t':Nat}(I:Inv X pins σ H s)(k:∀b u,s.heap.get? b=some u->h'.get? b=some u)(hp:s.heap.objs.size<=a)(new:YU X.prog X.w (upd H a o) h' a o):
  Inv X pins σ (upd H a o) {s with heap:=h',toks:=t'}:=I.un (Un.laid k hp (I.hok.fresh hp)) (I.hok.laid k hp new)
theorem Inv.write {x e:Addr}{o:HO}{t':Nat}(I:Inv X pins σ H s)(mu:Mut (H x))(he:e=x∨H e=some (.own x))(k:∀b u,b≠e->s.heap.get? b=some u->h'.get? b=some u)(heo:∃u,h'.get? e=some u)
  (new:YU X.prog X.w (upd H x o) h' x o):Inv X pins σ (upd H x o) {s with heap:=h',toks:=t'}:=I.un (Un.write mu he k heo) (I.hok.write mu he k heo new)
theorem Inv.weak {σ':List (Option V)}(I:Inv X pins σ H s)(hl:σ'.length=σ.length)(w:∀(i:Nat) v,σ'[i]?=some (some v)->σ[i]?=some (some v)):Inv X pins σ' H s:=
 ⟨I.ok,I.os,I.bare,I.base,let ⟨m,hn,hl'⟩:=I.loc;⟨m,hn,λi x v e1 e2 e3=>hl' i x v e1 (w i v e2) e3⟩,I.cell,I.free,I.freeC,I.pin,I.hok,hl.trans I.len⟩
theorem Inv.pins_of {pins':List (Addr×Obj)}(I:Inv X pins σ H s)(h:∀p∈pins',s.heap.get? p.1=some p.2/\H p.1=none/\p.1≠X.env.locals/\p.1∉X.fs/\∀v,p.2.data≠ .cell v):Inv X pins' σ H s:=
 ⟨I.ok,I.os,I.bare,I.base,I.loc,I.cell,I.free,I.freeC,λp hp=>(List.mem_append.mp hp).elim (λz=>I.pin p (List.mem_append_left _ z)) (h p),I.hok,I.len⟩
theorem KC {N:List Str}(hN:N.Nodup){i j:Nat}{x:Str}(a:N[i]?=some x)(b:N[j]?=some x):i=j:=by
 obtain⟨h1,e1⟩:=List.getElem?_eq_some_iff.mp a
 obtain⟨h2,e2⟩:=List.getElem?_eq_some_iff.mp b
 exact(List.getElem_inj hN).mp (e1.trans e2.symm)
theorem V6 {M:Model}{A:Around}{E:Value->Shared->Prop}{i:Nat}{x:Str}{v:V}{u:Value}{Q:Unit->Shared->Prop}(I:Inv X pins σ H s)(hN:X.N.Nodup)(hi:X.N[i]?=some x)(hx:Loc X.env.scope x)(r:X8 v u)
  (h:∀s',Inv X pins (σ.set i (some v)) H s'->(∃a,Heap.SameBut a s.heap s'.heap/\(a=X.env.locals∨X.env.cells.lookup x=some a))->Q () s')(hf:X.fn x=true∨X.env.scope.names.lookup x=some .local:=by first |exact .inl rfl |exact .inr rfl |assumption):wpAny M A (storeName X.env x u) Q E s:=by
 obtain⟨m,hn,hl⟩:=id I.loc
 have hcls:(X.env.scope.kind== .class || (X.env.scope.kind== .module&&X.env.locals !=X.env.globals))=false:=by rw[I.ok.kind];rfl
 have hiσ:i<σ.length:=by rw[I.len];exact(List.getElem?_eq_some_iff.mp hi).1
 have cne:=I.cne
 have tracked:∀{a:Addr}{h':Heap},(∃o,s.heap.get? a=some o/\H a=none)->Heap.SameBut a s.heap h'->HOk X.prog X.w H h':=fun {a h'} ha hs b ob e=>by
  obtain⟨_,_,hfree⟩:=ha
  refine(I.hok b ob e).stay (λc w' hc q=>(hs.2 c ?_).trans q) (λ_ q=>q) λ_ _ q=>q
  rintro rfl
  rcases hc with rfl |hc
  ·rw[hfree] at e;cases e
  ·rw[hfree] at hc;cases hc
 rcases hx with hk |hk
 ·refine wpAny_storeName_local hk hn (λh' hn' hs=>?_) hcls
  obtain⟨oL,_,_,hoL,_⟩:=id hn
  refine h _ ⟨I.ok,I.os,I.bare,⟨λb o e n hb hx=>?_,λb o e n hb hx=>?_,I.base.free,λb o e hx=>?_,I.base.tups,I.base.frzs,I.base.tbls⟩,⟨_,hn',λj y v' e1 e2 e3=>?_⟩,λy c e=>?_,I.free,I.freeC,λp hp=>?_,tracked ⟨oL,hoL,I.free⟩ hs,by simpa using I.len⟩ ⟨_,hs, .inl rfl⟩
  ·exact(hs.2 b (Nat.ne_of_lt (Nat.lt_of_lt_of_le (Heap.lt_size e) I.ok.above))).trans (I.base.keep b o e n hb hx)
  ·obtain⟨sl,e1⟩:=I.base.slot b o e n hb hx
   exact⟨sl,(hs.2 b (Nat.ne_of_lt (Nat.lt_of_lt_of_le (Heap.lt_size e) I.ok.above))).trans e1⟩
  ·obtain⟨o',e1⟩:=I.base.there b o e hx
   exact⟨o',(hs.2 b (Nat.ne_of_lt (Nat.lt_of_lt_of_le (Heap.lt_size e) I.ok.above))).trans e1⟩
  ·by_cases hj:j=i
   ·subst hj
    rw[hi] at e1;cases e1
    rw[List.getElem?_set_self hiσ] at e2
    cases e2
    exact⟨u,r, .inl ⟨hk,by simp⟩⟩
   ·rw[List.getElem?_set_ne (Ne.symm hj)] at e2
    obtain⟨u',r',q⟩:=hl j y v' e1 e2 e3
    refine⟨u',r',?_⟩
    rcases q with⟨k,e⟩ | ⟨k,c,e,z⟩
    ·refine .inl ⟨k,?_⟩
     have:y≠x:=λe=>hj (KC hN e1 (e▸hi))
     simp[this,e]
    ·exact .inr ⟨k,c,e,z.sameBut hs (cne y c e)⟩
  ·obtain⟨w',z⟩:=I.cell y c e
   exact⟨w',z.sameBut hs (cne y c e)⟩
  ·obtain⟨e,n,ne,nf,d⟩:=I.pin p hp
   exact⟨(hs.2 p.1 ne).trans e,n,ne,nf,d⟩
 ·have hfn:X.fn x=true:=by
   rcases hf with z |z
   ·exact z
   ·rw[z] at hk;cases hk
  obtain⟨c,hc⟩:=I.ok.has x (.inl hk)
  obtain⟨w',z⟩:=I.cell x c hc
  refine wpAny_storeName_cell I.ok.kind hk hc z (λh' hc' hs=>?_)
  obtain⟨oc,hoc,hocd⟩:=id z
  refine h {s with heap:=h'} ⟨I.ok,I.os,I.bare,⟨λb o e n hb hx=>?_,λb o e n hb hx=>?_,I.base.free,λb o e hx=>?_,I.base.tups,I.base.frzs,I.base.tbls⟩,⟨m,hn.sameBut hs (Ne.symm (cne x c hc)),λj y v' e1 e2 e3=>?_⟩,λy c' e=>?_,I.free,I.freeC,λp hp=>?_,tracked ⟨oc,hoc,I.freeC x c hc⟩ hs,by simpa using I.len⟩ ⟨c,hs, .inr hc⟩
  ·exact(hs.2 b (Nat.ne_of_lt (Nat.lt_of_lt_of_le (Heap.lt_size e) (I.ok.cab x c hfn hc)))).trans (I.base.keep b o e n hb hx)
  ·obtain⟨sl,e1⟩:=I.base.slot b o e n hb hx
   exact⟨sl,(hs.2 b (Nat.ne_of_lt (Nat.lt_of_lt_of_le (Heap.lt_size e) (I.ok.cab x c hfn hc)))).trans e1⟩
  ·obtain⟨o',e1⟩:=I.base.there b o e hx
   exact⟨o',(hs.2 b (Nat.ne_of_lt (Nat.lt_of_lt_of_le (Heap.lt_size e) (I.ok.cab x c hfn hc)))).trans e1⟩
  ·by_cases hj:j=i
   ·subst hj
    rw[hi] at e1;cases e1
    rw[List.getElem?_set_self hiσ] at e2
    cases e2
    exact⟨u,r, .inr ⟨.inl hk,c,hc,hc'⟩⟩
   ·rw[List.getElem?_set_ne (Ne.symm hj)] at e2
    obtain⟨u',r',q⟩:=hl j y v' e1 e2 e3
    refine⟨u',r',?_⟩
    rcases q with q | ⟨k,c',e,z'⟩
    ·exact .inl q
    ·refine .inr ⟨k,c',e,z'.sameBut hs ?_⟩
     rintro rfl
     exact hj (KC hN e1 (I.ok.inj _ _ _ e hc▸hi))
  ·by_cases hcc:c'=c
   ·subst hcc;exact⟨_,hc'⟩
   ·obtain⟨w2,z2⟩:=I.cell y c' e
    exact⟨w2,z2.sameBut hs hcc⟩
  ·obtain⟨e,n,ne,nf,d⟩:=I.pin p hp
   refine⟨(hs.2 p.1 ?_).trans e,n,ne,nf,d⟩
   intro q
   rw[q,hoc] at e
   have q':oc=p.2:=Option.some.inj e
   exact d w' (by rw[←q'];exact hocd)
theorem Qp {M:Model}{A:Around}{E:Value->Shared->Prop}{i:Nat}{x:Str}{v:V}{u:Value}{Q:Unit->Shared->Prop}(I:Inv X pins σ H s)(hN:X.N.Nodup)(hi:X.N[i]?=some x)(hx:Loc X.env.scope x)(r:X8 v u)
  (h:∀s',Inv X pins (σ.set i (some v)) H s'->Q () s')(hf:X.fn x=true∨X.env.scope.names.lookup x=some .local:=by first |exact .inl rfl |exact .inr rfl |assumption):wpAny M A (storeName X.env x u) Q E s:=
 V6 I hN hi hx r (λs' I' _=>h s' I') hf
theorem Inv.call' {s':Shared}{ch:List Addr}(I:Inv X pins σ H s)(ho:s'.os=s.os)(u:Un (frs X.stack) ch H H' s.heap s'.heap)(hok:HOk X.prog X.w H' s'.heap)(hg:AllBare s'.gens)
  (hch:∀b∈ch,(b∈X.ex∨X.s₀.heap.objs.size<=b)/\b≠X.env.locals/\(∀x c,X.env.cells.lookup x=some c->c≠b)/\∀p∈X.pn++pins,p.1≠b):Inv X pins σ H' s':=by
 obtain⟨h',g',d',t',o'⟩:=s'
 have e:o'=s.os:=ho
 subst e
 exact I.call (g':=g') (t':=t') (d':=d') u hok hg hch
end
noncomputable abbrev XK:=Value->Option Addr->Hp->Prop
noncomputable abbrev St:=List (Option V)
noncomputable abbrev VK:=V->Hp->Prop
noncomputable abbrev TE:=St->Hp->VK->Prop
noncomputable abbrev TT:=St->Hp->(Bool->Hp->Prop)->Prop
noncomputable abbrev TA:=St->Hp->(List V->Hp->Prop)->Prop
structure Ends where
 nx:St->Hp->Prop
 rt:VK
 bk:St->Hp->Prop:=λ_ _=>False
 ct:St->Hp->Prop:=λ_ _=>False
noncomputable abbrev TS:=Ends->St->Hp->Prop
noncomputable def EP (X:Cx)(pins:List (Addr×Obj))(σ:St)(Q:VK)(u:Value)(s':Shared):Prop:=∃ v H',Inv X pins σ H' s'/\X8 v u/\Q v H'
noncomputable def TP (X:Cx)(pins:List (Addr×Obj))(σ:St)(Q:Bool->Hp->Prop)(b:Bool)(s':Shared):Prop:=∃ H',Inv X pins σ H' s'/\Q b H'
noncomputable def AP (X:Cx)(pins:List (Addr×Obj))(σ:St)(Q:List V->Hp->Prop)(us:List Value)(s':Shared):Prop:=∃ vs H',Inv X pins σ H' s'/\XT vs us/\Q vs H'
noncomputable def SP (X:Cx)(pins:List (Addr×Obj))(D:Ends)(f:Flow)(s':Shared):Prop:=
 match f with
 | .next=>∃ σ' H',Inv X pins σ' H' s'/\D.nx σ' H'
 | .brk=>∃ σ' H',Inv X pins σ' H' s'/\D.bk σ' H'
 | .cont=>∃ σ' H',Inv X pins σ' H' s'/\D.ct σ' H'
 | .ret u=>∃ v σ' H',Inv X pins σ' H' s'/\X8 v u/\D.rt v H'
noncomputable def PE (X:Cx)(e:Expr)(t:TE):Prop:=
 ∀(pins:List (Addr×Obj)) (s:Shared) (σ:St) (H:Hp) (Q:VK),Inv X pins σ H s->t σ H Q->wpAny (model X.prog X.w) X.A (eval e X.env) (EP X pins σ Q) X.xe s
noncomputable def PT (X:Cx)(e:Expr)(t:TT):Prop:=
 ∀(pins:List (Addr×Obj)) (s:Shared) (σ:St) (H:Hp) (Q:Bool->Hp->Prop),Inv X pins σ H s->t σ H Q->wpAny (model X.prog X.w) X.A (isTrue e X.env (eval e X.env)) (TP X pins σ Q) X.xe s
noncomputable def PW (X:Cx)(e:Expr)(t:TT):Prop:=
 ∀(whole:Sem Value) (pins:List (Addr×Obj)) (s:Shared) (σ:St) (H:Hp) (Q:Bool->Hp->Prop),Inv X pins σ H s->t σ H Q->wpAny (model X.prog X.w) X.A (isTrue e X.env whole) (TP X pins σ Q) X.xe s
theorem PW.pt {X:Cx}{e:Expr}{t:TT}(h:PW X e t):PT X e t:=h _
noncomputable def PA (X:Cx)(es:List Expr)(t:TA):Prop:=
 ∀(pos:Pos) (pins:List (Addr×Obj)) (s:Shared) (σ:St) (H:Hp) (Q:List V->Hp->Prop),Inv X pins σ H s->t σ H Q->wpAny (model X.prog X.w) X.A (spliced (backTo pos (starEach es X.env))) (AP X pins σ Q) X.xe s
noncomputable def PS (X:Cx)(st:Stmt)(t:TS):Prop:=
 ∀(pins:List (Addr×Obj)) (s:Shared) (σ:St) (H:Hp) (D:Ends),Inv X pins σ H s->t D σ H->wpAny (model X.prog X.w) X.A (exec st X.env) (SP X pins D) X.xe s
noncomputable def PSs (X:Cx)(st:List Stmt)(t:TS):Prop:=
 ∀(pins:List (Addr×Obj)) (s:Shared) (σ:St) (H:Hp) (D:Ends),Inv X pins σ H s->t D σ H->wpAny (model X.prog X.w) X.A (execs st X.env) (SP X pins D) X.xe s
theorem thn {α:Type}{t:Sem α}{Q Q':α->Shared->Prop}{M:Model}{A:Around}{E:Value->Shared->Prop}{s:Shared}(h:wpAny M A t Q E s)(hQ:∀a s,Q a s->Q' a s):wpAny M A t Q' E s:=wpAny_mono h hQ λ_ _ x=>x
section
variable {X:Cx}
noncomputable def VM (i:Nat):TE:=λσ H Q=>∃ v,σ[i]?=some (some v)/\Q v H
noncomputable def tC (v:V):TE:=λ_ H Q=>Q v H
theorem Ha {i:Nat}{x:Str}{pos:Pos}(hN:X.N[i]?=some x)(hv:Vis X.env.scope x)(hd:(x==("__debug__":Str))=false:=by decide)(hcd:(x==("__classdict__":Str))=false:=by decide):PE X (.Name x pos) (VM i):=by
 intro pins s σ H Q I h
 obtain⟨v,e,h⟩:=h
 obtain⟨m,hn,hl⟩:=I.loc
 obtain⟨u,r,l⟩:=hl i x v hN e hv
 have fin:EP X pins σ Q u s:=⟨v,H,I,r,h⟩
 rcases l with⟨hk,hm⟩ | ⟨hk,c,hc,hcell⟩
 ·exact wpAny_Name (wpAny_loadName_local I.ok.kind hk hn hm fin) hd
 ·rcases hk with hk |hk
  ·exact wpAny_Name (wpAny_loadName_cell I.ok.kind hk hc hcell fin) hd
  ·exact wpAny_Name (wpAny_loadName_free I.ok.kind hk hc hcell fin hcd) hd
theorem Xg {i j pos}:PE X (.Constant (.int i) j pos) (tC (.int i)):=λ_ _ _ H _ I h=>wpAny_Constant_int ⟨.int i,H,I.tok _,⟨_,rfl⟩,h⟩
theorem ZH {b j pos}:PE X (.Constant (.bool b) j pos) (tC (.bl b)):=λ_ _ _ H _ I h=>Constant_bool ⟨.bl b,H,I,rfl,h⟩
theorem YC {x j pos}:PE X (.Constant (.str x) j pos) (tC (.str x)):=λ_ _ _ H _ I h=>Calls.Constant_str ⟨.str x,H,I.tok _,⟨_,rfl⟩,h⟩
noncomputable def Gl (X:Cx)(x:Str):Prop:=X.env.kindOf x=some .globalImplicit
theorem VH {E:Value->Shared->Prop}{pins:List (Addr×Obj)}{s:Shared}{σ:St}{H:Hp}{x:Str}{u:Value}{pos:Pos}{Q:Value->Shared->Prop}(I:Inv X pins σ H s)(hg:Gl X x)(hm:X.mg x=some u)(h:Q u s)
  (hd:(x==("__debug__":Str))=false:=by decide):wpAny (model X.prog X.w) X.A (eval (.Name x pos) X.env) Q E s:=
 Calls.Name_function_global I.ok.kind hg (Calls.loadGlobal_global (by rw[I.ok.glob];exact I.mod.glob.keeps I.bk) hm h) hd
theorem J1 {E:Value->Shared->Prop}{pins:List (Addr×Obj)}{s:Shared}{σ:St}{H:Hp}{x:Str}{u:Value}{pos:Pos}{Q:Value->Shared->Prop}(I:Inv X pins σ H s)(hg:Gl X x)(hm:X.mg x=none)(hv:bootBuiltins x=some u)(h:Q u s)
  (hn:x≠ "__name__":=by decide)(hd:(x==("__debug__":Str))=false:=by decide):wpAny (model X.prog X.w) X.A (eval (.Name x pos) X.env) Q E s:=by
 obtain⟨mb,h1,h2⟩:=I.mod.blt
 exact Calls.Name_function_global I.ok.kind hg (Calls.loadGlobal_builtin (by rw[I.ok.glob];exact I.mod.glob.keeps I.bk) hm (by rw[I.ok.blt];exact h1.keeps I.bk) ((h2 x hn).trans hv) h) hd
theorem Z8 {x:Str}{v:V}{u:Value}{pos:Pos}(hg:Gl X x)(hm:X.mg x=some u)(r:X8 v u)(hd:(x==("__debug__":Str))=false:=by decide):PE X (.Name x pos) (tC v):=
 λ_ _ _ H _ I h=>VH I hg hm ⟨v,H,I,r,h⟩ hd
theorem Q6 {x:Str}{v:V}{u:Value}{pos:Pos}(hg:Gl X x)(hm:X.mg x=none)(hv:bootBuiltins x=some u)(r:X8 v u)(hn:x≠ "__name__":=by decide)(hd:(x==("__debug__":Str))=false:=by decide):PE X (.Name x pos) (tC v):=
 λ_ _ _ H _ I h=>J1 I hg hm hv ⟨v,H,I,r,h⟩ hn hd
variable {a b:Expr}{ta tb:TE}{pos:Pos}
noncomputable def tB (t:TE):TT:=λσ H Q=>t σ H λx H1=>∃ c,x= .bl c/\Q c H1
theorem Zx {e:Expr}{t:TE}(h:PE X e t)(he:∀whole,isTrue e X.env whole=(do let v ←whole;standAt e.pos;holding [v] (truthy v)):=by intro _;rfl):PT X e (tB t):=by
 intro pins s σ H Q I hw
 refine isTrue_plain (thn (h pins s σ H _ I hw) λv s1 r9=>?_) (he _)
 obtain⟨x,H1,I1,r1,q1⟩:=r9
 obtain⟨d,rfl,q⟩:=q1
 cases r1
 exact wpAny_truthy_bool ⟨H1,I1,q⟩
variable {tA tB':TT}{Y3:List Expr}
noncomputable def IN (t u:TT):TT:=λσ H Q=>t σ H λc H1=>if c=true then u σ H1 Q else Q false H1
noncomputable def tOr (t u:TT):TT:=λσ H Q=>t σ H λc H1=>if c=true then Q true H1 else u σ H1 Q
noncomputable def IH (t:TT):TT:=λσ H Q=>t σ H λc H1=>Q (!c) H1
theorem QB (ha:PT X a tA):PW X (.BoolOp .And [a] pos) tA:=by
 intro wh pins s σ H Q I h
 refine isTrue_and (thn (ha pins s σ H Q I h) λc s1 e=>?_)
 cases c with
 |true=>exact isTrue_and_nil e
 |false=>exact e
theorem Q7 (ha:PT X a tA):PW X (.BoolOp .Or [a] pos) tA:=by
 intro wh pins s σ H Q I h
 refine isTrue_or (thn (ha pins s σ H Q I h) λc s1 e=>?_)
 cases c with
 |false=>exact isTrue_or_nil e
 |true=>exact e
theorem ZI (ha:PT X a tA)(hb:PW X (.BoolOp .And (b::Y3) pos) tB'):PW X (.BoolOp .And (a::b::Y3) pos) (IN tA tB'):=by
 intro wh pins s σ H Q I h
 refine isTrue_and (thn (ha pins s σ H _ I h) λc s1 r9=>?_)
 obtain⟨H1,I1,q1⟩:=r9
 cases c with
 |true=>exact hb wh pins s1 σ H1 Q I1 q1
 |false=>exact⟨H1,I1,q1⟩
theorem UL (ha:PT X a tA)(hb:PW X (.BoolOp .Or (b::Y3) pos) tB'):PW X (.BoolOp .Or (a::b::Y3) pos) (tOr tA tB'):=by
 intro wh pins s σ H Q I h
 refine isTrue_or (thn (ha pins s σ H _ I h) λc s1 r9=>?_)
 obtain⟨H1,I1,q1⟩:=r9
 cases c with
 |true=>exact⟨H1,I1,q1⟩
 |false=>exact hb wh pins s1 σ H1 Q I1 q1
theorem Zn (ha:PT X a tA):PT X (.UnaryOp .Not a pos) (IH tA):=by
 intro pins s σ H Q I h
 exact isTrue_not (ha pins s σ H (λc H1=>Q (!c) H1) I h)
noncomputable def Hf (ta tb:TE):TE:=λσ H Q=>ta σ H λx H1=>∃ c,x= .bl c/\if c=true then tb σ H1 Q else Q (.bl false) H1
noncomputable def Iw (ta tb:TE):TE:=λσ H Q=>ta σ H λx H1=>∃ c,x= .bl c/\if c=true then Q (.bl true) H1 else tb σ H1 Q
noncomputable def Hw (ta:TE):TE:=λσ H Q=>ta σ H λx H1=>∃ c,x= .bl c/\Q (.bl (!c)) H1
theorem Q8 {op}{t:TE}(h:PE X a t):PE X (.BoolOp op [a] pos) t:=λpins s σ H Q I hw=>BoolOp_one (h pins s σ H Q I hw)
theorem V2 (ha:PE X a ta)(hb:PE X (.BoolOp .And (b::Y3) pos) tb):PE X (.BoolOp .And (a::b::Y3) pos) (Hf ta tb):=by
 intro pins s σ H Q I h
 refine BoolOp_and (thn (ha pins s σ H _ I h) λv s1 r9=>?_)
 obtain⟨x,H1,I1,r1,q1⟩:=r9
 obtain⟨c,rfl,q1⟩:=q1
 cases r1
 refine wpAny_truthy_bool ?_
 cases c with
 |true=>exact hb pins s1 σ H1 Q I1 q1
 |false=>exact⟨.bl false,H1,I1,rfl,q1⟩
theorem Ho (ha:PE X a ta)(hb:PE X (.BoolOp .Or (b::Y3) pos) tb):PE X (.BoolOp .Or (a::b::Y3) pos) (Iw ta tb):=by
 intro pins s σ H Q I h
 refine BoolOp_or (thn (ha pins s σ H _ I h) λv s1 r9=>?_)
 obtain⟨x,H1,I1,r1,q1⟩:=r9
 obtain⟨c,rfl,q1⟩:=q1
 cases r1
 refine wpAny_truthy_bool ?_
 cases c with
 |false=>exact hb pins s1 σ H1 Q I1 q1
 |true=>exact⟨.bl true,H1,I1,rfl,q1⟩
theorem FC (ha:PE X a ta):PE X (.UnaryOp .Not a pos) (Hw ta):=by
 intro pins s σ H Q I h
 refine UnaryOp_ (thn (ha pins s σ H _ I h) λv s1 r9=>?_)
 obtain⟨x,H1,I1,r1,q1⟩:=r9
 obtain⟨c,rfl,q1⟩:=q1
 cases r1
 exact not_of (wpAny_truthy_bool ⟨.bl (!c),H1,I1,rfl,q1⟩)
noncomputable def tIf (t:TT)(ta tb:TE):TE:=λσ H Q=>t σ H λc H1=>if c=true then ta σ H1 Q else tb σ H1 Q
theorem KA {c:Expr}(hc:PT X c tA)(ha:PE X a ta)(hb:PE X b tb):PE X (.IfExp c a b pos) (tIf tA ta tb):=by
 intro pins s σ H Q I h
 refine wpAny_IfExp (thn (hc pins s σ H _ I h) λd s1 r9=>?_)
 obtain⟨H1,I1,q1⟩:=r9
 cases d with
 |true=>exact ha pins s1 σ H1 Q I1 q1
 |false=>exact hb pins s1 σ H1 Q I1 q1
end
noncomputable def SqL (K:PySem.W.Frag)(H:Hp)(a:Addr)(xs:List V):Prop:=
 Rd H a (.lst xs)∨
  ∃(o:Obj) (its:Array Value) (n:Nat),K.lookup a=some o/\o.cls= .type "list" /\o.dict=none/\o.data= .seq its n/\its.size<=sizeLine/\XT xs its.toList
noncomputable def SqT (K:PySem.W.Frag)(H:Hp)(a:Addr)(xs:List V):Prop:=
 Rd H a (.tup xs)∨
  ∃(o:Obj) (its:Array Value) (n:Nat),K.lookup a=some o/\o.cls= .type "tuple" /\o.data= .seq its n/\its.size<=sizeLine/\XT xs its.toList
noncomputable def IW:Value->Option V
 | .none=>some .non
 | .bool b=>some (.bl b)
 | .int i _=>some (.int i)
 | .str x _=>some (.str x)
 | .bytes b _=>some (.byt b)
 | .float b _=>some (.flt b)
 | .ref a=>some (.ref a)
 | .type n=>some (.ty n)
 |_=>none
theorem X8.abs {x:V}{u:Value}(r:X8 x u):IW u=some x:=by
 cases x with
 |non=>cases r;rfl
 |bl _=>cases r;rfl
 |int _=>obtain⟨t,rfl⟩:=r;rfl
 |str _=>obtain⟨t,rfl⟩:=r;rfl
 |byt _=>obtain⟨t,rfl⟩:=r;rfl
 |flt _=>obtain⟨t,rfl⟩:=r;rfl
 |ref _=>cases r;rfl
 |ty _=>cases r;rfl
theorem X8.inj {x y:V}{u:Value}(r:X8 x u)(q:X8 y u):x=y:=Option.some.inj (r.abs.symm.trans q.abs)
theorem XT.inj:∀{xs ys:List V}{us:List Value},XT xs us->XT ys us->xs=ys:=fun {xs ys us} p=>by
 induction p generalizing ys with
 |nil=>intro q;cases q;rfl
 |cons r _ ih=>intro q;cases q with |cons r' t'=>rw[r.inj r',ih t']
section
variable {X:Cx}{pins:List (Addr×Obj)}{σ:St}{H:Hp}{s:Shared}{a:Addr}{xs ys:List V}
theorem SqL.of {K:PySem.W.Frag}(h:H a=some (.lst xs)):SqL K H a xs:=.inl (.inl h)
theorem SqT.of {K:PySem.W.Frag}(h:H a=some (.tup xs)):SqT K H a xs:=.inl (.inl h)
theorem Inv.list (I:Inv X pins σ H s)(h:SqL X.K H a xs):∃its:List Value,XT xs its/\PlainL s.heap a its.toArray/\xs.length<=sizeLine:=by
 rcases h with h | ⟨o,its,n,hk,hc,hd,hs,hz,r⟩
 ·obtain⟨z,its,n,r,e⟩:=h.ok I.hok
  exact⟨its,r,⟨_,n,e,rfl,rfl,rfl⟩,z⟩
 ·refine⟨its.toList,r,⟨o,n,I.kIn a o hk,hc,hd,by simpa using hs⟩,?_⟩
  have e:=r.length
  simp only[Array.length_toList] at e
  omega
theorem Inv.tuple (I:Inv X pins σ H s)(h:SqT X.K H a xs):∃its:List Value,XT xs its/\IsTup s.heap a its.toArray/\xs.length<=sizeLine:=by
 rcases h with h | ⟨o,its,n,hk,hc,hs,hz,r⟩
 ·obtain⟨z,its,r,p⟩:=h.ok I.hok
  exact⟨its,r,p.t,z⟩
 ·refine⟨its.toList,r,⟨o,I.kIn a o hk,hc,n,by simpa using hs⟩,?_⟩
  have e:=r.length
  simp only[Array.length_toList] at e
  omega
theorem Inv.list_inj (I:Inv X pins σ H s)(h:SqL X.K H a xs)(h':SqL X.K H a ys):xs=ys:=by
 obtain⟨its,r,⟨o,n,e,_,_,d⟩,_⟩:=I.list h
 obtain⟨its',r',⟨o',n',e',_,_,d'⟩,_⟩:=I.list h'
 rw[e] at e';cases e'
 rw[d] at d'
 injection d' with d1 _
 have:its=its':=by simpa using congrArg Array.toList d1
 subst this
 exact r.inj r'
theorem Inv.tuple_inj (I:Inv X pins σ H s)(h:SqT X.K H a xs)(h':SqT X.K H a ys):xs=ys:=by
 obtain⟨its,r,⟨o,e,_,n,d⟩,_⟩:=I.tuple h
 obtain⟨its',r',⟨o',e',_,n',d'⟩,_⟩:=I.tuple h'
 rw[e] at e';cases e'
 rw[d] at d'
 injection d' with d1 _
 have:its=its':=by simpa using congrArg Array.toList d1
 subst this
 exact r.inj r'
end
noncomputable abbrev Cx.wish (X:Cx)(E:Value->Shared->Prop):Cx:={X with xe:=E}
noncomputable abbrev Cx.nox (X:Cx):Cx:=X.wish λ_ _=>False
theorem Cx.Ok.wish {X:Cx}(ok:X.Ok)(E:Value->Shared->Prop):(X.wish E).Ok:=
 ⟨ok.mod,ok.kind,ok.glob,ok.blt,ok.above,ok.inj,ok.has,ok.cab,ok.hd,ok.frames,ok.stk,ok.exf,ok.bs,ok.bsz,ok.noex,ok.exfs,ok.funs,ok.frf⟩
theorem Cx.Ok.unwish {X:Cx}{E:Value->Shared->Prop}(ok:(X.wish E).Ok):X.Ok:=
 ⟨ok.mod,ok.kind,ok.glob,ok.blt,ok.above,ok.inj,ok.has,ok.cab,ok.hd,ok.frames,ok.stk,ok.exf,ok.bs,ok.bsz,ok.noex,ok.exfs,ok.funs,ok.frf⟩
section
variable {X:Cx}{pins:List (Addr×Obj)}{σ:St}{H:Hp}{s:Shared}{E:Value->Shared->Prop}
theorem Inv.wish (I:Inv X pins σ H s)(E:Value->Shared->Prop):Inv (X.wish E) pins σ H s:=⟨I.ok.wish E,I.os,I.bare,I.base,I.loc,I.cell,I.free,I.freeC,I.pin,I.hok,I.len⟩
theorem Inv.unwish (I:Inv (X.wish E) pins σ H s):Inv X pins σ H s:=⟨I.ok.unwish,I.os,I.bare,I.base,I.loc,I.cell,I.free,I.freeC,I.pin,I.hok,I.len⟩
theorem SP.unwish {D:Ends}{f:Flow}{s':Shared}(h:SP (X.wish E) pins D f s'):SP X pins D f s':=by
 cases f with
 |next=>obtain⟨σ',H',I,q⟩:=h;exact⟨σ',H',I.unwish,q⟩
 |brk=>obtain⟨σ',H',I,q⟩:=h;exact⟨σ',H',I.unwish,q⟩
 |cont=>obtain⟨σ',H',I,q⟩:=h;exact⟨σ',H',I.unwish,q⟩
 |ret u=>obtain⟨v,σ',H',I,r,q⟩:=h;exact⟨v,σ',H',I.unwish,r,q⟩
theorem PE.nox {e:Expr}{t:TE}(h:PE X.nox e t):PE X e t:=λpins s σ H Q I hw=>
 wpAny_mono (h pins s σ H Q (I.wish _) hw) (λ_ _ r9=>by obtain⟨v,H',I',r,q⟩:=r9;exact⟨v,H',I'.unwish,r,q⟩) λ_ _ z=>False.elim z
theorem PT.nox {e:Expr}{t:TT}(h:PT X.nox e t):PT X e t:=λpins s σ H Q I hw=>
 wpAny_mono (h pins s σ H Q (I.wish _) hw) (λ_ _ r9=>by obtain⟨H',I',q⟩:=r9;exact⟨H',I'.unwish,q⟩) λ_ _ z=>False.elim z
theorem PSs.nox {st:List Stmt}{t:TS}(h:PSs X.nox st t):PSs X st t:=λpins s σ H D I hw=>
 wpAny_mono (h pins s σ H D (I.wish _) hw) (λ_ _ q=>q.unwish) λ_ _ z=>False.elim z
end
section
variable {X:Cx}{st:Stmt}{Y3:List Stmt}{t u:TS}{e:Expr}{te:TE}{pos:Pos}
noncomputable def Q9:TS:=λD σ H=>D.nx σ H
noncomputable def ZQ (t u:TS):TS:=λD σ H=>t {D with nx:=u D} σ H
theorem Xf:PSs X [] Q9:=λ_ _ σ H _ I h=>wpAny_execs_nil ⟨σ,H,I,h⟩
theorem Xa (h1:PS X st t)(h2:PSs X Y3 u):PSs X (st::Y3) (ZQ t u):=by
 intro pins s σ H D I h
 refine wpAny_execs_cons (thn (h1 pins s σ H {D with nx:=u D} I h) λf s1 q=>?_)
 cases f with
 |next=>
  obtain⟨σ',H',I',q⟩:=q
  exact h2 pins s1 σ' H' D I' q
 |ret v=>exact q
 |brk=>exact q
 |cont=>exact q
theorem Inv.quiet {pins:List (Addr×Obj)}{σ:St}{H:Hp}{s:Shared}(I:Inv X pins σ H s):interactive X.env=false:=by simp[interactive,I.ok.kind]
noncomputable def UG (te:TE):TS:=λD σ H=>te σ H λ_ H1=>D.nx σ H1
theorem Yz (he:PE X e te)(hs:swapsWith e none pos.line X.env=pure false:=by rfl):PS X (.Expr e pos) (UG te):=by
 intro pins s σ H D I h
 exact wpAny_Expr_any (thn (he pins s σ H _ I h) λv s1 r9=>by obtain⟨x,H1,I1,r1,q1⟩:=r9;exact⟨σ,H1,I1,q1⟩) I.quiet hs
noncomputable def IB (te:TE):TS:=λD σ H=>te σ H D.rt
theorem Xs (he:PE X e te):PS X (.Return (some e) pos) (IB te):=by
 intro pins s σ H D I h
 exact wpAny_Return_some (thn (he pins s σ H _ I h) λv s1 r9=>by obtain⟨x,H1,I1,r1,q1⟩:=r9;exact⟨x,σ,H1,I1,r1,q1⟩)
noncomputable def Eg (c:TT)(t u:TS):TS:=λD σ H=>c σ H λb H1=>if b=true then t D σ H1 else u D σ H1
theorem X9 {c:Expr}{a b:List Stmt}{tc:TT}(hc:PT X c tc)(ha:PSs X a t)(hb:PSs X b u):PS X (.If c a b pos) (Eg tc t u):=by
 intro pins s σ H D I h
 refine wpAny_If (thn (hc pins s σ H _ I h) λd s1 r9=>?_)
 obtain⟨H1,I1,q1⟩:=r9
 cases d with
 |true=>exact ha pins s1 σ H1 D I1 q1
 |false=>exact hb pins s1 σ H1 D I1 q1
end
noncomputable abbrev TG:=V->St->Hp->(St->Hp->Prop)->Prop
noncomputable def PG (X:Cx)(target:Expr)(t:TG):Prop:=
 ∀(pins:List (Addr×Obj)) (s:Shared) (σ:St) (H:Hp) (v:V) (u:Value) (Q:St->Hp->Prop),Inv X pins σ H s->X8 v u->t v σ H Q->
  wpAny (model X.prog X.w) X.A (assign target X.env u) (λ_ s'=>∃ σ' H',Inv X pins σ' H' s'/\Q σ' H') X.xe s
noncomputable abbrev HX:=V->V->V->Hp->(Hp->Prop)->Prop
noncomputable def IC (X:Cx)(t:HX):Prop:=
 ∀(pins:List (Addr×Obj)) (s:Shared) (σ:St) (H:Hp) (o i v:V) (ov iv u:Value) (Q:Hp->Prop),Inv X pins σ H s->X8 o ov->X8 i iv->X8 v u->t o i v H Q->
  wpAny (model X.prog X.w) X.A (setItem ov iv u) (λ_ s'=>∃ H',Inv X pins σ H' s'/\Q H') X.xe s
section
variable {X:Cx}{pos:Pos}
noncomputable def QC (i:Nat):TG:=λv σ H Q=>Q (σ.set i (some v)) H
theorem XH {i:Nat}{x:Str}(hN:X.N.Nodup)(hi:X.N[i]?=some x)(hx:Loc X.env.scope x)(hf:X.fn x=true∨X.env.scope.names.lookup x=some .local:=by first |exact .inl rfl |exact .inr rfl |assumption):PG X (.Name x pos) (QC i):=by
 intro pins s σ H v u Q I r h
 exact wpAny_assign_Name (Qp I hN hi hx r (λs' I'=>⟨_,H,I',h⟩) hf)
noncomputable def Il (to ti:TE)(t:HX):TG:=λv σ H Q=>to σ H λo H1=>ti σ H1 λi H2=>t o i v H2 λH3=>Q σ H3
theorem DB {o i:Expr}{to ti:TE}{t:HX}(ho:PE X o to)(hi:PE X i ti)(hs:IC X t)
  (ha:∀v,assign (.Subscript o i pos) X.env v=(do
   let ov ←holding [v] (eval o X.env)
   let iv ←holding [v,ov] (eval i X.env)
   standAt pos
   holding [v,ov,iv] (setItem ov iv v)
   release [v,ov,iv] []):=by intro _;rfl):PG X (.Subscript o i pos) (Il to ti t):=by
 intro pins s σ H v u Q I r h
 rw[ha]
 refine wpAny_bind (wpAny_holding (thn (ho pins s σ H _ I h) λov s1 r9=>?_))
 obtain⟨x,H1,I1,r1,q1⟩:=r9
 refine wpAny_bind (wpAny_holding (thn (hi pins s1 σ H1 _ I1 q1) λiv s2 r9=>?_))
 obtain⟨y,H2,I2,r2,q2⟩:=r9
 refine wpAny_bind (wpAny_standAt (wpAny_bind (wpAny_holding (thn (hs pins s2 σ H2 x y v ov iv u _ I2 r1 r2 r q2) λ_ s3 r9=>?_))))
 obtain⟨H3,I3,q3⟩:=r9
 exact wpAny_release ⟨σ,H3,I3,q3⟩
noncomputable def GV (te:TE)(g:TG):TS:=λD σ H=>te σ H λx H1=>g x σ H1 D.nx
theorem DH {tg e:Expr}{te:TE}{g:TG}(he:PE X e te)(hg:PG X tg g)(hs:swapsWithSole [tg] e pos.line X.env=pure false:=by rfl)(hw:swappedStores [tg] e X.env=pure none:=by rfl)
  (h1:(assignEach [tg] X.env).map (·.2)=[assign tg X.env]:=by rfl):PS X (.Assign [tg] e pos) (GV te g):=by
 intro pins s σ H D I h
 refine wpAny_Assign_stores (thn (he pins s σ H _ I h) λv s1 r9=>?_) hs hw
 obtain⟨x,H1,I1,r1,q1⟩:=r9
 rw[h1]
 exact thn (hg pins s1 σ H1 x v _ I1 r1 q1) λ_ s2 q=>q
theorem Xy {i:Nat}{x:Str}{e:Expr}{te:TE}{pos':Pos}(hN:X.N.Nodup)(hi:X.N[i]?=some x)(hx:Loc X.env.scope x)(he:PE X e te)(hs:swapsWith e (some (.Name x pos')) pos.line X.env=pure false:=by rfl)(hf:X.fn x=true∨X.env.scope.names.lookup x=some .local:=by first |exact .inl rfl |exact .inr rfl |assumption):
  PS X (.Assign [.Name x pos'] e pos) (GV te (QC i)):=by
 intro pins s σ H D I h
 refine wpAny_Assign_Name (thn (he pins s σ H _ I h) λv s1 r9=>?_) hs
 obtain⟨y,H1,I1,r1,q1⟩:=r9
 exact Qp I1 hN hi hx r1 (λs2 I2=>⟨_,H1,I2,q1⟩) hf
noncomputable def IJ (i j:Nat)(ta:TA):TS:=λD σ H=>ta σ H λvs H1=>∃ v w,vs=[v,w]/\D.nx ((σ.set i (some v)).set j (some w)) H1
theorem Bi {i j:Nat}{x y:Str}{a b:Expr}{ta:TA}{px py pt:Pos}{kt k2 pt2}(hc:X.calm=true)(hN:X.N.Nodup)(hi:X.N[i]?=some x)(hj:X.N[j]?=some y)(hij:i≠j)
  (hx:X.env.scope.names.lookup x=some .local)(hy:X.env.scope.names.lookup y=some .local)(ha:PA X [a,b] ta)
  (hw:swappedStores [.Tuple [.Name x px, .Name y py] kt pt] (.Tuple [a,b] k2 pt2) X.env=pure (some [x,y]))
  (hs:swapsWithSole [.Tuple [.Name x px, .Name y py] kt pt] (.Tuple [a,b] k2 pt2) pos.line X.env=pure false:=by rfl):
  PS X (.Assign [.Tuple [.Name x px, .Name y py] kt pt] (.Tuple [a,b] k2 pt2) pos) (IJ i j ta):=by
 intro pins s σ H D I h
 rw[exec_Assign_arm]
 refine wpAny_bind (wpAny_standAt ?_)
 rw[hs]
 refine wpAny_bind (wpAny_pure ?_)
 rw[if_neg (by decide)]
 refine wpAny_bind (Tuple_ (thn (ha _ pins s σ H _ I h) λus s1 r9=>?_))
 obtain⟨vs,H1,I1,r1,q1⟩:=r9
 obtain⟨v,w,e1,q1⟩:=q1
 subst e1
 obtain⟨u1,u2,rfl,rv,rw'⟩:∃u1 u2,us=[u1,u2]/\X8 v u1/\X8 w u2:=by
  cases r1 with
  |cons p q=>
   cases q with
   |cons p' q'=>
    cases q'
    exact⟨_,_,rfl,p,p'⟩
 refine wpAny_newObj_type ?_ (by show 2<=sizeLine;decide)
 have I2:Inv X pins σ H1 {s1 with heap:=s1.heap.push {cls:=.type "tuple",data:=.seq [u1,u2].toArray}}:=I1.kept (t':=s1.toks) λb o e=>Heap.get?_push_of_some _ e
 rw[hw]
 refine wpAny_bind (wpAny_pure ?_)
 show wpAny (model X.prog X.w) X.A (do rule "assign.swapped-stores";let items ←unpackItems (.ref s1.heap.objs.size) 2 none;assignInOrder [λv=>bindName X.env y v,λv=>bindName X.env x v] items.reverse;pure Flow.next) _ _ _
 refine wpAny_bind (wpAny_rule (wpAny_bind (unpackItems_tuple (items:=#[u1,u2]) (I.ok.hd hc) (IsTup.new s1.heap _) λh' hx'=>?_)))
 have I3:=I2.kept (h':=h') (t':=s1.toks) λb o e=>hx' b o (Nat.ne_of_lt (Heap.lt_size e)) e
 show wpAny _ _ (assignInOrder [λv=>bindName X.env y v,λv=>bindName X.env x v] [u2,u1] >>= λ_=>pure Flow.next) _ _ _
 refine wpAny_bind (assignInOrder_cons (wpAny_bindName (Qp I3 hN hj (.inl hy) rw' (λs2 I4=>?_) (.inr hy))))
 refine assignInOrder_cons (wpAny_bindName (Qp I4 hN hi (.inl hx) rv (λs3 I5=>assignInOrder_nil (wpAny_pure ?_)) (.inr hx)))
 rw[List.set_comm _ _ (Ne.symm hij)] at I5
 exact⟨_,H1,I5,q1⟩
end
section
variable {X:Cx}{pos:Pos}
noncomputable def Bf (c:TT)(tb:TS):TS:=λD σ H=>∃ W:Nat->St->Hp->Prop,(∃m,W m σ H)/\∀m σ H,W m σ H->
 c σ H λb H1=>if b=true then ∃N:St->Hp->Prop,(∀σ' H',N σ' H'->∃m',m'<m/\W m' σ' H')/\tb {D with nx:=N,ct:=N,bk:=D.nx} σ H1 else D.nx σ H1
theorem K9 {c:Expr}{body:List Stmt}{tc:TT}{tb:TS}(hp:PassesOwn (model X.prog X.w) X.A X.env X.xe)(hc:PT X c tc)(hb:PSs X body tb):PS X (.While c body [] pos) (Bf tc tb):=by
 intro pins s σ H D I h
 obtain⟨W,⟨m0,w0⟩,turn⟩:=h
 refine wpAny_While (codeAny_whileLoop (λn s'=>∃ σ' H',Inv X pins σ' H' s'/\W n σ' H') ?_ m0 ⟨σ,H,I,w0⟩)
 rintro n s1 ⟨σ1,H1,I1,w1⟩
 refine wpAny_passesOwn hp (thn (hc pins s1 σ1 H1 _ I1 (turn n σ1 H1 w1)) λb s2 r9=>?_)
 obtain⟨H2,I2,q2⟩:=r9
 cases b with
 |true=>
  obtain⟨N,hN,q2⟩:=q2
  rw[if_pos rfl]
  refine wpAny_passesOwn hp (thn (hb pins s2 σ1 H2 _ I2 q2) λf s3 q3=>?_)
  cases f with
  |next=>
   obtain⟨σ3,H3,I3,n3⟩:=q3
   obtain⟨m',hm,w3⟩:=hN σ3 H3 n3
   exact⟨m',hm,σ3,H3,I3,w3⟩
  |cont=>
   obtain⟨σ3,H3,I3,n3⟩:=q3
   obtain⟨m',hm,w3⟩:=hN σ3 H3 n3
   exact⟨m',hm,σ3,H3,I3,w3⟩
  |brk=>exact q3
  |ret v=>exact q3
 |false=>
  rw[if_neg Bool.false_ne_true]
  exact wpAny_execs_nil ⟨σ1,H2,I2,q2⟩
end
structure It where
 go:Nat->Hp->Prop
 yld:Nat->Hp->V->Hp->Prop
 stop:Nat->Hp->Prop
noncomputable def Ke (X:Cx)(pins:List (Addr×Obj))(H:Hp)(b:Addr):Prop:=
 H b=none/\b≠X.env.locals/\b∉X.fs/\(b∈X.ex∨X.s₀.heap.objs.size<=b)/\(∀x c,X.env.cells.lookup x=some c->c≠b)/\∀p∈X.pn++pins,p.1≠b
theorem Inv.fpOk {X:Cx}{pins:List (Addr×Obj)}{σ:St}{H H':Hp}{s:Shared}{b:Addr}(I:Inv X pins σ H s)(hb:s.heap.objs.size<=b)(hn:H' b=none):Ke X pins H' b:=by
 refine⟨hn,Nat.ne_of_gt (Nat.lt_of_lt_of_le I.lt hb),I.nofs hb, .inr (Nat.le_trans I.sz hb),λx c e z=>?_,λp hp z=>?_⟩
 ·obtain⟨v,q⟩:=I.cell x c e
  exact absurd (Nat.lt_of_lt_of_le q.lt (by rw[z];exact hb)) (Nat.lt_irrefl _)
 ·exact absurd (Nat.lt_of_lt_of_le (Heap.lt_size (I.pin p hp).1) (by rw[z];exact hb)) (Nat.lt_irrefl _)
structure Turn (P:Program)(w:World)(K:PySem.W.Frag)(tg:Expr)(J:It)(fp:List Addr)(it:Addr)(tn:Nat->Heap->Prop):Prop where
 mem:it∈fp
 obj:∀i h,tn i h->∀b∈fp,∃o,h.get? b=some o/\∀v,o.data≠ .cell v
 keep:∀i h h',tn i h->(∀b∈fp,∀o,h.get? b=some o->h'.get? b=some o)->tn i h'
 item:∀(X:Cx),X.prog=P->X.w=w->X.K=K->X.calm=true->∀(i:Nat) (pins:List (Addr×Obj)) (s:Shared) (σ:St) (H:Hp) (E:Value->Shared->Prop),Inv X pins σ H s->(∀b∈fp,Ke X pins H b)->tn i s.heap->J.go i H->
  wpAny (model P w) X.A (pyNext (.ref it)) (λr s1=>∃ u,r=some u/\
   wpAny (model P w) X.A (letOwnedTupleGo tg (.ref it) u) (λ_ s2=>∃ x H',Inv X pins σ H' s2/\X8 x u/\J.yld i H x H'/\tn (i+1) s2.heap/\∀b∈fp,H' b=none) E s1) E s
 done:∀(X:Cx),X.prog=P->X.w=w->X.K=K->X.calm=true->∀(i:Nat) (pins:List (Addr×Obj)) (s:Shared) (σ:St) (H:Hp) (E:Value->Shared->Prop),Inv X pins σ H s->(∀b∈fp,Ke X pins H b)->tn i s.heap->J.stop i H->
  wpAny (model P w) X.A (pyNext (.ref it)) (λr s1=>r=none/\Inv X pins σ H s1) E s
 self:∀(A:Around) (i:Nat) (s:Shared) (Q:Value->Shared->Prop) (E:Value->Shared->Prop),tn i s.heap->Q (.ref it) s->wpAny (model P w) A (pyIter (.ref it)) Q E s
noncomputable abbrev TI:=St->Hp->(It->Hp->Prop)->Prop
noncomputable def PIE (X:Cx)(pins:List (Addr×Obj))(σ:St)(tg:Expr)(R:It->Hp->Prop)(itv:Value)(s2:Shared):Prop:=
 ∃(it:Addr) (fp:List Addr) (tn:Nat->Heap->Prop) (J:It) (H':Hp),itv= .ref it/\Inv X pins σ H' s2/\Turn X.prog X.w X.K tg J fp it tn/\tn 0 s2.heap/\(∀b∈fp,Ke X pins H' b)/\R J H'
noncomputable def PI (X:Cx)(tg iter:Expr)(wi:TI):Prop:=
 ∀(pins:List (Addr×Obj)) (s:Shared) (σ:St) (H:Hp) (R:It->Hp->Prop),Inv X pins σ H s->wi σ H R->
  wpAny (model X.prog X.w) X.A (eval iter X.env) (λv s1=>wpAny (model X.prog X.w) X.A (pyIter v) (PIE X pins σ tg R) X.xe s1) X.xe s
theorem E9 {M:Model}{A:Around}{E:Value->Shared->Prop}{s:Shared}{tg:Expr}{it:Addr}{u:Value}{o:Obj}{n:String}{vs:Array Value}{Q:Unit->Shared->Prop}(ho:s.heap.get? it=some o)(hc:o.cls= .type n)(hd:o.data= .fields vs)
    (hn: ["enumerate","zip","dict_itemiterator","dict_reverseitemiterator","odict_iterator","itertools.zip_longest","itertools.pairwise"].contains n=false)(hQ:Q () s):wpAny M A (letOwnedTupleGo tg (.ref it) u) Q E s:=by
  unfold letOwnedTupleGo
  cases tg<;> first
    |exact wpAny_pure hQ
    | (cases u<;> first
        |exact wpAny_pure hQ
        | (refine wpAny_bind (wpAny_load ho ?_)
           rw[hc,hd]
           show wpAny M A (if(["enumerate","zip","dict_itemiterator","dict_reverseitemiterator","odict_iterator","itertools.zip_longest","itertools.pairwise"].contains n&&vs[0]?==some (rawInt _))=true then _ else _) Q E s
           rw[if_neg (by intro h;rw[hn,Bool.false_and] at h;cases h)]
           exact wpAny_pure hQ))
noncomputable def Itl (K:PySem.W.Frag)(a:Addr):It:=
 ⟨λi H=>∃ xs x,SqL K H a xs/\xs[i]?=some x,λi H x H'=>H'=H/\∀xs,SqL K H a xs->xs[i]?=some x,λi H=>∃ xs,SqL K H a xs/\xs.length<=i⟩
noncomputable def Itr (lo:Int)(n:Nat):It:=⟨λi _=>i<n,λi H x H'=>H'=H/\x= .int (lo+i),λi _=>n<=i⟩
theorem Fa {P:Program}{w:World}{K:PySem.W.Frag}{tg:Expr}(a it:Addr):Turn P w K tg (Itl K a) [it] it (λi h=>h.IsListIter it a i) where
 mem:=by simp
 obj:=λi h st b hb=>by
  have e:b=it:=by simpa using hb
  subst e
  obtain⟨o,e,c,d⟩:=st
  exact⟨o,e,λv z=>by rw[d] at z;cases z⟩
 keep:=λi h h' st k=>st.at λo e=>k it (by simp) o e
 item:=by
  intro X hP hw hK hc i pins s σ H E I hf st hg
  subst hP hw hK
  obtain⟨xs,x,hq,hx⟩:=hg
  obtain⟨its,rv,p,hz⟩:=I.list hq
  obtain⟨u,hu,ru⟩:=rv.get hx
  obtain⟨f0,f1,f2,f3,f4,f5⟩:=hf it (by simp)
  refine wpAny_pyNext_list_item st p.isList (x:=u) (by simpa using hu) λh' st' sb=>?_
  have I1:Inv X pins σ H {s with heap:=h'}:=I.turned (t':=s.toks) (λb o hb e=>(sb.2 b hb).trans e) f0 f1 f3 f4 f5
  obtain⟨o,e,c,d⟩:=id st'
  exact⟨u,rfl,E9 (s:={s with heap:=h'}) e c d (by decide) ⟨x,H,I1,ru,⟨rfl,λys hy=>by rw[I.list_inj hy hq];exact hx⟩,st',λb hb=>(hf b hb).1⟩⟩
 done:=by
  intro X hP hw hK hc i pins s σ H E I hf st hg
  subst hP hw hK
  obtain⟨xs,hq,hx⟩:=hg
  obtain⟨its,rv,p,hz⟩:=I.list hq
  obtain⟨f0,f1,f2,f3,f4,f5⟩:=hf it (by simp)
  have hl:=rv.length
  exact wpAny_pyNext_list_end (I.ok.hd hc) st p.isList (by simp;omega) λh' eb=>⟨rfl,I.turned (t':=s.toks) (λb o hb e=>eb b o hb e) f0 f1 f3 f4 f5⟩
 self:=λ_ _ _ _ _ st h=>wpAny_pyIter_listiter st h
theorem GA {P:Program}{w:World}{K:PySem.W.Frag}{tg:Expr}(it:Addr)(lo:Int)(n:Nat):Turn P w K tg (Itr lo n) [it] it (λi h=>IsRangeIter h it (lo+(i:Nat)*1) ((n:Int)-(i:Nat)) 1) where
 mem:=by simp
 obj:=λi h st b hb=>by
  have e:b=it:=by simpa using hb
  subst e
  exact⟨_,st,λv z=>by
   have z':Data.fields _=Data.cell v:=z
   cases z'⟩
 keep:=λi h h' st k=>k it (by simp) _ st
 item:=by
  intro X hP hw hK hc i pins s σ H E I hf st hg
  subst hP hw hK
  obtain⟨f0,f1,f2,f3,f4,f5⟩:=hf it (by simp)
  have W:=Walks.range (prog:=X.prog) (w:=X.w) (I.ok.hd hc) it lo 1 n
  refine W.item i s _ _ hg st λv h' tk hv st' kk=>?_
  obtain⟨t,rfl⟩:=hv
  have I1:Inv X pins σ H {s with heap:=h',toks:=tk}:=I.turned (λb o hb e=>kk b o (by simpa using hb) e) f0 f1 f3 f4 f5
  refine⟨_,rfl,E9 (s:={s with heap:=h',toks:=tk}) (n:="range_iterator") st' rfl rfl (by decide) ⟨.int (lo+i),H,I1,⟨t,?_⟩,⟨rfl,rfl⟩,st',λb hb=>(hf b hb).1⟩⟩
  rw[Int.mul_one]
 done:=by
  intro X hP hw hK hc i pins s σ H E I hf st hg
  subst hP hw hK
  obtain⟨f0,f1,f2,f3,f4,f5⟩:=hf it (by simp)
  exact wpAny_pyNext_range_end (I.ok.hd hc) st (by have:n<=i:=hg;omega) λh' eb=>⟨rfl,I.turned (t':=s.toks) (λb o hb e=>eb b o hb e) f0 f1 f3 f4 f5⟩
 self:=λ_ _ _ _ _ st h=>wpAny_pyIter_rangeiter st h
section
variable {X:Cx}{tg:Expr}
noncomputable def Ci (K:PySem.W.Frag)(tl:TE):TI:=λσ H R=>tl σ H λx H1=>∃ a,x= .ref a/\(∃xs,SqL K H1 a xs)/\R (Itl K a) H1
theorem ED {l:Expr}{tl:TE}(hl:PE X l tl):PI X tg l (Ci X.K tl):=by
 intro pins s σ H R I h
 refine thn (hl pins s σ H _ I h) λv s1 r9=>?_
 obtain⟨x,H1,I1,r1,q1⟩:=r9
 obtain⟨a,e,⟨xs,hq⟩,q⟩:=q1
 subst e
 cases r1
 obtain⟨its,rv,p,hz⟩:=I1.list hq
 refine wpAny_pyIter_list p.isList ?_
 refine⟨s1.heap.objs.size,[s1.heap.objs.size],_,_,H1,rfl,I1.kept (t':=s1.toks) λb o e=>Heap.get?_push_of_some _ e,Fa a _,⟨_,Heap.get?_push_size _ rfl,rfl,rfl⟩,λb hb=>?_,q⟩
 have e:b=s1.heap.objs.size:=by simpa using hb
 subst e
 exact I1.fpOk (Nat.le_refl _) (I1.hok.fresh (Nat.le_refl _))
theorem CW {pins:List (Addr×Obj)}{σ:St}{H:Hp}{s:Shared}{R:It->Hp->Prop}{E:Value->Shared->Prop}{lo hi:Int}{t u v:Tok}{tk:Nat}(I:Inv X pins σ H s)(h1: -(2^62)<=lo)(h2:lo<2^62)(h3: -(2^62)<=hi)(h4:hi<2^62)
  (q:R (Itr lo (hi-lo).toNat) H):wpAny (model X.prog X.w) X.A (pyIter (.ref s.heap.objs.size)) (PIE X pins σ tg R) E {s with heap:=s.heap.push {cls:=.type "range",data:=.fields #[.int lo t, .int hi u, .int 1 v]},toks:=tk}:=by
 refine wpAny_pyIter_range (IsRange.new ..) (small_one h1 h2 h3 h4) ?_
 have I1:Inv X pins σ H {s with heap:=s.heap.push {cls:=.type "range",data:=.fields #[.int lo t, .int hi u, .int 1 v]},toks:=tk}:=I.kept λb o e=>Heap.get?_push_of_some _ e
 refine⟨(s.heap.push {cls:=.type "range",data:=.fields #[.int lo t, .int hi u, .int 1 v]}).objs.size,[(s.heap.push {cls:=.type "range",data:=.fields #[.int lo t, .int hi u, .int 1 v]}).objs.size],_,_,H,rfl,
  I1.kept (t':=tk) λb o e=>Heap.get?_push_of_some _ e,GA _ lo (hi-lo).toNat,?_,λb hb=>?_,q⟩
 ·have e1:lo+((0:Nat):Int)*1=lo:=by simp
  have e2:(((hi-lo).toNat:Nat):Int)-((0:Nat):Int)=Builtin.Range.rangeSize lo hi 1:=by rw[rangeSize_one];split<;> omega
  show IsRangeIter _ _ (lo+((0:Nat):Int)*1) ((((hi-lo).toNat:Nat):Int)-((0:Nat):Int)) 1
  rw[e1,e2]
  exact Heap.get?_push_size _ rfl
 ·have e:b=(s.heap.push {cls:= .type "range",data:= .fields #[.int lo t, .int hi u, .int 1 v]}).objs.size:=by simpa using hb
  subst e
  exact I1.fpOk (Nat.le_refl _) (I1.hok.fresh (Nat.le_refl _))
noncomputable def EX (ta:TA):TI:=λσ H R=>ta σ H λvs H1=>∃ j:Int,vs=[.int j]/\ -(2^62)<=j/\j<2^62/\R (Itr 0 j.toNat) H1
theorem YB {a:Expr}{ta:TA}{p pos:Pos}(hg:Gl X "range")(hm:X.mg "range" =none)(ha:PA X [a] ta)(hs:starEach [a] X.env=[(false,eval a X.env)]:=by rfl):PI X tg (.Call (.Name "range" p) [a] [] pos) (EX ta):=by
 intro pins s σ H R I h
 refine Call_ (J1 I hg hm boot_range (PyProof.Rows.callWith_type1 (thn (ha pos pins s σ H _ I h) λus s1 r9=>?_) hs rfl))
 obtain⟨vs,H1,I1,r1,q1⟩:=r9
 obtain⟨j,e,q1,q2,q⟩:=q1
 subst e
 cases r1 with
 |cons r rr=>
  cases rr
  obtain⟨t,rfl⟩:=r
  exact call_range_1 (CW I1 (by omega) (by omega) q1 q2 (by simpa using q))
noncomputable def Ht (wi:TI)(g:TG)(tb:TS):TS:=λD σ H=>wi σ H λJ H1=>∃ W:Nat->Nat->St->Hp->Prop,(∃m,W 0 m σ H1)/\∀i m σ H,W i m σ H->
 (J.stop i H/\D.nx σ H)∨(J.go i H/\∃N:St->Hp->Prop,(∀σ' H',N σ' H'->∃m',m'<m/\W (i+1) m' σ' H')/\∀x H',J.yld i H x H'->g x σ H' λσ2 H2=>tb {D with nx:=N,ct:=N,bk:=D.nx} σ2 H2)
noncomputable def Ua (fp:List Addr)(h:Heap):List (Addr×Obj):=fp.filterMap λb=>(h.get? b).map λo=>(b,o)
theorem Qr {fp:List Addr}{h:Heap}{b:Addr}{o:Obj}(hb:b∈fp)(e:h.get? b=some o):(b,o)∈Ua fp h:=List.mem_filterMap.mpr ⟨b,hb,by rw[e];rfl⟩
theorem DA {fp:List Addr}{h:Heap}{p:Addr×Obj}(hp:p∈Ua fp h):p.1∈fp/\h.get? p.1=some p.2:=by
 obtain⟨b,hb,e⟩:=List.mem_filterMap.mp hp
 cases q:h.get? b with
 |none=>rw[q] at e;cases e
 |some o=>
  rw[q] at e
  have e':(b,o)=p:=Option.some.inj e
  subst e'
  exact⟨hb,q⟩
theorem Inv.pinned {pins:List (Addr×Obj)}{σ:St}{H:Hp}{s:Shared}{fp:List Addr}(I:Inv X pins σ H s)(hf:∀b∈fp,Ke X pins H b)(ho:∀b∈fp,∃o,s.heap.get? b=some o/\∀v,o.data≠ .cell v):Inv X (pins++Ua fp s.heap) σ H s:=
 I.pins_of λp hp=>(List.mem_append.mp hp).elim (λz=>I.pin p (List.mem_append_right _ z)) λz=>by
  obtain⟨hb,e⟩:=DA z
  obtain⟨f0,f1,f2,_⟩:=hf p.1 hb
  obtain⟨o,e',d⟩:=ho p.1 hb
  rw[e] at e';cases e'
  exact⟨e,f0,f1,f2,d⟩
theorem Inv.unpinned {pins pl:List (Addr×Obj)}{σ:St}{H:Hp}{s:Shared}(I:Inv X (pins++pl) σ H s):Inv X pins σ H s:=I.pins_of λp hp=>I.pin p (List.mem_append_right _ (List.mem_append_left _ hp))
theorem Zo {iter:Expr}{body:List Stmt}{wi:TI}{g:TG}{tb:TS}{pos:Pos}(hp:PassesOwn (model X.prog X.w) X.A X.env X.xe)(hc:X.calm=true)(hi:PI X tg iter wi)(hg:PG X tg g)(hb:PSs X body tb)
  (hs:∀x,foldedSetIterable iter X.env x=pure x:=by intro _;rfl):PS X (.For tg iter body [] pos) (Ht wi g tb):=by
 intro pins s σ H D I h
 refine wpAny_For (thn (hi pins s σ H _ I h) λv s1 h1=>thn h1 λitv s2 h2=>?_) hs
 obtain⟨it,fp,tn,J,H2,e,I2,T,st2,f2,W,⟨m0,w0⟩,turn⟩:=h2
 subst e
 -- what stays true of the iterator's objects through the loop
 have stat:∀{H':Hp},(∀b∈fp,H' b=none)->∀b∈fp,Ke X pins H' b:=λhn b hb=>⟨hn b hb,(f2 b hb).2⟩
 refine codeAny_forLoop_any (λn s'=>∃ i σ' H',Inv X pins σ' H' s'/\tn i s'.heap/\(∀b∈fp,H' b=none)/\W i n σ' H') ?_ m0 ⟨0,σ,H2,I2,st2,λb hb=>(f2 b hb).1,w0⟩
 rintro n s3 ⟨i,σ3,H3,I3,st3,fr3,w3⟩
 rcases turn i n σ3 H3 w3 with⟨stop,qn⟩ | ⟨go,N,hN,step⟩
 ·refine wpAny_passesOwn hp (thn (T.done X rfl rfl rfl hc i pins s3 σ3 H3 X.xe I3 (stat fr3) st3 stop) λr s4 r9=>?_)
  obtain⟨hr,I4⟩:=r9
  subst hr
  exact wpAny_execs_nil ⟨σ3,H3,I4,qn⟩
 ·refine wpAny_passesOwn hp (thn (T.item X rfl rfl rfl hc i pins s3 σ3 H3 X.xe I3 (stat fr3) st3 go) λr s4 r9=>?_)
  obtain⟨u,hr,h4⟩:=r9
  subst hr
  refine wpAny_passesOwn hp (thn h4 λ_ s5 r9=>?_)
  obtain⟨x,H5,I5,r5,y5,st5,fr5⟩:=r9
  have I5':=I5.pinned (stat fr5) (T.obj _ _ st5)
  refine wpAny_passesOwn hp (thn (hg _ s5 σ3 H5 x u _ I5' r5 (step x H5 y5)) λ_ s6 r9=>?_)
  obtain⟨σ6,H6,I6,q6⟩:=r9
  refine wpAny_passesOwn hp (thn (hb _ s6 σ6 H6 _ I6 q6) λf s7 q7=>?_)
  have again:∀{σ7:St}{H7:Hp},Inv X (pins++Ua fp s5.heap) σ7 H7 s7->N σ7 H7->∃m,m<n/\∃i σ' H',Inv X pins σ' H' s7/\tn i s7.heap/\(∀b∈fp,H' b=none)/\W i m σ' H':=fun {σ7 H7} I7 n7=>by
   obtain⟨m',hm,w7⟩:=hN σ7 H7 n7
   refine⟨m',hm,i+1,σ7,H7,I7.unpinned,T.keep _ _ _ st5 λb hb o e=>(I7.pin (b,o) (List.mem_append_right _ (List.mem_append_right _ (Qr hb e)))).1,λb hb=>?_,w7⟩
   obtain⟨o,e,d⟩:=T.obj _ _ st5 b hb
   exact(I7.pin (b,o) (List.mem_append_right _ (List.mem_append_right _ (Qr hb e)))).2.1
  cases f with
  |next=>obtain⟨σ7,H7,I7,n7⟩:=q7;exact again I7 n7
  |cont=>obtain⟨σ7,H7,I7,n7⟩:=q7;exact again I7 n7
  |brk=>obtain⟨σ7,H7,I7,q7⟩:=q7;exact⟨σ7,H7,I7.unpinned,q7⟩
  |ret v=>obtain⟨x7,σ7,H7,I7,r7,q7⟩:=q7;exact⟨x7,σ7,H7,I7.unpinned,r7,q7⟩
end
theorem Cw {K:PySem.W.Frag}{a:Addr}{xs:List V}{g:TG}{tb:TS}{D:Ends}{σ:St}{H:Hp}(Pv:Nat->St->Hp->Prop)(h0:Pv 0 σ H)(hl:∀i σ H,i<=xs.length->Pv i σ H->SqL K H a xs)
  (hs:∀i x σ H,xs[i]?=some x->Pv i σ H->g x σ H λσ2 H2=>tb {D with nx:=Pv (i+1),ct:=Pv (i+1),bk:=D.nx} σ2 H2)(hd:∀σ H,Pv xs.length σ H->D.nx σ H):
  ∃W:Nat->Nat->St->Hp->Prop,(∃m,W 0 m σ H)/\∀i m σ H,W i m σ H->
   ((Itl K a).stop i H/\D.nx σ H)∨((Itl K a).go i H/\∃N:St->Hp->Prop,(∀σ' H',N σ' H'->∃m',m'<m/\W (i+1) m' σ' H')/\∀x H',(Itl K a).yld i H x H'->g x σ H' λσ2 H2=>tb {D with nx:=N,ct:=N,bk:=D.nx} σ2 H2):=by
 refine⟨λi m σ H=>m=xs.length-i/\i<=xs.length/\Pv i σ H,⟨xs.length,by simp,Nat.zero_le _,h0⟩,?_⟩
 rintro i m σ H ⟨rfl,hi,p⟩
 have q:=hl i σ H hi p
 by_cases hlt:i<xs.length
 ·refine .inr ⟨⟨xs,xs[i],q,by simp[hlt]⟩,Pv (i+1),λσ' H' p'=>⟨xs.length-(i+1),by omega,rfl,hlt,p'⟩,λx H' y=>?_⟩
  obtain⟨e,y⟩:=y
  subst e
  exact hs i x σ _ (y xs q) p
 ·have e:i=xs.length:=by omega
  subst e
  exact .inl ⟨⟨xs,q,Nat.le_refl _⟩,hd σ H p⟩
noncomputable abbrev R2:=V->V->Hp->VK->Prop
noncomputable def OpR (X:Cx)(f:Value->Value->Sem Value)(r:R2):Prop:=
 ∀(pins:List (Addr×Obj)) (s:Shared) (σ:St) (H:Hp) (x y:V) (v u:Value) (Q:VK),Inv X pins σ H s->X8 x v->X8 y u->r x y H Q->
  wpAny (model X.prog X.w) X.A (f v u) (EP X pins σ Q) X.xe s
noncomputable def UnR (X:Cx)(f:Value->Sem Value)(r:V->Hp->VK->Prop):Prop:=
 ∀(pins:List (Addr×Obj)) (s:Shared) (σ:St) (H:Hp) (x:V) (v:Value) (Q:VK),Inv X pins σ H s->X8 x v->r x H Q->
  wpAny (model X.prog X.w) X.A (f v) (EP X pins σ Q) X.xe s
noncomputable def ZJ (X:Cx)(f:Value)(r:List V->Hp->VK->Prop):Prop:=
 ∀(pins:List (Addr×Obj)) (s:Shared) (σ:St) (H:Hp) (xs:List V) (us:List Value) (Q:VK),Inv X pins σ H s->XT xs us->r xs H Q->
  wpAny (model X.prog X.w) X.A (call f us) (EP X pins σ Q) X.xe s
noncomputable def tOp (r:R2)(ta tb:TE):TE:=λσ H Q=>ta σ H λx H1=>tb σ H1 λy H2=>r x y H2 Q
noncomputable def tUn (r:V->Hp->VK->Prop)(ta:TE):TE:=λσ H Q=>ta σ H λx H1=>r x H1 Q
noncomputable def rI (C:Int->Int->Prop)(g:Int->Int->V):R2:=λx y H Q=>∃ i j,x= .int i/\y= .int j/\C i j/\Q (g i j) H
noncomputable def rI0 (g:Int->Int->V):R2:=λx y H Q=>∃ i j,x= .int i/\y= .int j/\Q (g i j) H
noncomputable def rU (g:Int->V):V->Hp->VK->Prop:=λx H Q=>∃ i,x= .int i/\Q (g i) H
section
variable {X:Cx}{a b c:Expr}{ta tb tc:TE}{pos:Pos}
theorem Ia (ha:PE X a ta)(hb:PE X b tb){pins:List (Addr×Obj)}{s:Shared}{σ:St}{H:Hp}{R:V->V->Hp->Prop}(I:Inv X pins σ H s)
  (h:ta σ H λx H1=>tb σ H1 λy H2=>R x y H2){Q:Value->Shared->Prop}{f:Value->Value->Sem Value}
  (hf:∀v u s2 x y H2,Inv X pins σ H2 s2->X8 x v->X8 y u->R x y H2->wpAny (model X.prog X.w) X.A (f v u) Q X.xe s2):
  wpAny (model X.prog X.w) X.A (eval a X.env) (λv s₁=>wpAny (model X.prog X.w) X.A (eval b X.env) (λu s₂=>wpAny (model X.prog X.w) X.A (f v u) Q X.xe s₂) X.xe s₁) X.xe s:=by
 refine thn (ha pins s σ H _ I h) λv s1 r9=>?_
 obtain⟨x,H1,I1,r1,q1⟩:=r9
 refine thn (hb pins s1 σ H1 _ I1 q1) λu s2 r9=>?_
 obtain⟨y,H2,I2,r2,q2⟩:=r9
 exact hf v u s2 x y H2 I2 r1 r2 q2
theorem Xn {op:Operator}{r:R2}(ho:OpR X (binaryOp op) r)(ha:PE X a ta)(hb:PE X b tb):PE X (.BinOp a op b pos) (tOp r ta tb):=by
 intro pins s σ H Q I h
 exact wpAny_BinOp (Ia ha hb I h λv u s2 x y H2 I2 rx ry q=>ho pins s2 σ H2 x y v u Q I2 rx ry q)
theorem Hi {op:UnaryOp}{r:V->Hp->VK->Prop}(ho:UnR X (unaryOp op) r)(ha:PE X a ta):PE X (.UnaryOp op a pos) (tUn r ta):=by
 intro pins s σ H Q I h
 exact UnaryOp_ (thn (ha pins s σ H _ I h) λv s1 r9=>by obtain⟨x,H1,I1,r1,q1⟩:=r9;exact ho pins s1 σ H1 x v Q I1 r1 q1)
theorem opI {f:Value->Value->Sem Value}{C:Int->Int->Prop}{g:Int->Int->Int}
  (rule:∀(i j:Int) (t u:Tok) (s:Shared) (Q:Value->Shared->Prop) (E:Value->Shared->Prop),C i j->Q (.int (g i j) s.toks) {s with toks:=s.toks+1}->wpAny (model X.prog X.w) X.A (f (.int i t) (.int j u)) Q E s):
  OpR X f (rI C λi j=>.int (g i j)):=by
 intro pins s σ H x y v u Q I rx ry h
 obtain⟨i,j,rfl,rfl,hc,q⟩:=h
 obtain⟨t,rfl⟩:=rx
 obtain⟨t',rfl⟩:=ry
 exact rule i j t t' s _ _ hc ⟨.int (g i j),H,I.tok _,⟨_,rfl⟩,q⟩
theorem IL {f:Value->Value->Sem Value}{g:Int->Int->Int}
  (rule:∀(i j:Int) (t u:Tok) (s:Shared) (Q:Value->Shared->Prop) (E:Value->Shared->Prop),Q (.int (g i j) s.toks) {s with toks:=s.toks+1}->wpAny (model X.prog X.w) X.A (f (.int i t) (.int j u)) Q E s):
  OpR X f (rI0 λi j=>.int (g i j)):=by
 intro pins s σ H x y v u Q I rx ry h
 obtain⟨i,j,rfl,rfl,q⟩:=h
 obtain⟨t,rfl⟩:=rx
 obtain⟨t',rfl⟩:=ry
 exact rule i j t t' s _ _ ⟨.int (g i j),H,I.tok _,⟨_,rfl⟩,q⟩
theorem HK {f:Value->Value->Sem Value}{g:Int->Int->Bool}
  (rule:∀(i j:Int) (t u:Tok) (s:Shared) (Q:Value->Shared->Prop) (E:Value->Shared->Prop),Q (.bool (g i j)) s->wpAny (model X.prog X.w) X.A (f (.int i t) (.int j u)) Q E s):
  OpR X f (rI0 λi j=>.bl (g i j)):=by
 intro pins s σ H x y v u Q I rx ry h
 obtain⟨i,j,rfl,rfl,q⟩:=h
 obtain⟨t,rfl⟩:=rx
 obtain⟨t',rfl⟩:=ry
 exact rule i j t t' s _ _ ⟨.bl (g i j),H,I,rfl,q⟩
noncomputable def Iy (i j:Int):Prop:=0<=j/\j<=1000000/\i.natAbs<2^64
noncomputable def HQ (i j:Int):Prop:=(-(2^64)<i/\i<2^64)∨(-(2^64)<j/\j<2^64)
theorem HQ.ok {i j:Int}(h:HQ i j):IntMulOk i j:=by
 rcases h with⟨h1,h2⟩ | ⟨h1,h2⟩
 ·exact .of_left (intBits_le_64 h1 h2)
 ·exact .of_right (intBits_le_64 h1 h2)
theorem Yp:OpR X (binaryOp .Add) (rI0 λi j=>.int (i+j)):=IL λ_ _ _ _ _ _ _ q=>add_int q
theorem Zj:OpR X (binaryOp .Sub) (rI0 λi j=>.int (i-j)):=IL λ_ _ _ _ _ _ _ q=>sub_int q
theorem YD:OpR X (binaryOp .Mult) (rI HQ λi j=>.int (i*j)):=opI λ_ _ _ _ _ _ _ hc q=>mul_int q hc.ok
theorem Yd:OpR X (binaryOp .Mod) (rI (λ_ j=>0<j) λi j=>.int (i % j)):=opI λi j _ _ _ _ _ hc q=>by
 have h1:(0:Int)<j:=hc
 exact mod_int' (by omega) (by rw[Int.fmod_eq_emod_of_nonneg i (by omega)];exact q)
theorem JB:OpR X (binaryOp .Pow) (rI Iy λi j=>.int (i^j.toNat)):=opI λ_ _ _ _ _ _ _ hc q=>pow_int_small hc.1 hc.2.1 hc.2.2 q
theorem unI {f:Value->Sem Value}{g:Int->Int}
  (rule:∀(i:Int) (t:Tok) (s:Shared) (Q:Value->Shared->Prop) (E:Value->Shared->Prop),Q (.int (g i) s.toks) {s with toks:=s.toks+1}->wpAny (model X.prog X.w) X.A (f (.int i t)) Q E s):
  UnR X f (rU λi=>.int (g i)):=by
 intro pins s σ H x v Q I rx h
 obtain⟨i,rfl,q⟩:=h
 obtain⟨t,rfl⟩:=rx
 exact rule i t s _ _ ⟨.int (g i),H,I.tok _,⟨_,rfl⟩,q⟩
theorem Bg:UnR X (unaryOp .USub) (rU λi=>.int (-i)):=unI λ_ _ _ _ _ q=>neg_int q
end
noncomputable def Ie:V->V->Bool
 | .non, .non=>true | .non, .int _=>true | .int _, .non=>true | .non, .bl _=>true | .bl _, .non=>true | .non, .str _=>true | .str _, .non=>true
 | .int _, .int _=>true | .bl _, .bl _=>true | .str _, .str _=>true | .byt _, .byt _=>true
 | .int _, .str _=>true | .str _, .int _=>true | .bl _, .str _=>true | .str _, .bl _=>true
 |_,_=>false
noncomputable def rEq:R2:=λx y H Q=>Ie x y=true/\Q (.bl (decide (x=y))) H
noncomputable def rNe:R2:=λx y H Q=>Ie x y=true/\Q (.bl (!decide (x=y))) H
theorem FG {i j:Int}:decide (V.int i=V.int j)=(i==j):=by
 rw[Bool.eq_iff_iff]
 simp
theorem Bl {i j:Bool}:decide (V.bl i=V.bl j)=(i==j):=by
 rw[Bool.eq_iff_iff]
 simp
theorem FY {i j:Str}:decide (V.str i=V.str j)=(i==j):=by
 rw[Bool.eq_iff_iff]
 simp
theorem Dh {i j:Array UInt8}:decide (V.byt i=V.byt j)=(i.toList==j.toList):=by
 rw[Bool.eq_iff_iff]
 cases i
 cases j
 simp
section
variable {X:Cx}{a b c:Expr}{ta tb tc:TE}{pos:Pos}
theorem XS {pins:List (Addr×Obj)}{σ:St}{H:Hp}{s:Shared}{Q:VK}{k k':Bool}(I:Inv X pins σ H s)(q:Q (.bl k) H)(e:k=k'):EP X pins σ Q (.bool k') s:=by
 subst e
 exact⟨.bl k,H,I,rfl,q⟩
theorem Zi:OpR X (compareOp .Eq) rEq:=by
 intro pins s σ H x y v u Q I rx ry h
 obtain⟨hs,q⟩:=h
 cases x with
 |non=>
  cases rx
  cases y with
  |non=>cases ry;exact PySem.EqNone.eq_none_none (XS I q (by simp))
  |bl j=>cases ry;exact PySem.EqNone.eq_none_bool (XS I q (by simp))
  |int j=>obtain⟨t',rfl⟩:=ry;exact PySem.EqNone.eq_none_int (XS I q (by simp))
  |str j=>obtain⟨t',rfl⟩:=ry;exact PySem.EqNone.eq_none_str (XS I q (by simp))
  |_=>exact absurd (show false=true from hs) Bool.false_ne_true
 |bl i=>
  cases rx
  cases y with
  |non=>cases ry;exact PySem.EqNone.eq_bool_none (XS I q (by simp))
  |bl j=>cases ry;exact eq_bool (XS I q Bl)
  |str j=>obtain⟨t',rfl⟩:=ry;exact PySem.EqMixed.eq_bool_str (XS I q (by simp))
  |_=>exact absurd (show false=true from hs) Bool.false_ne_true
 |int i=>
  obtain⟨t,rfl⟩:=rx
  cases y with
  |non=>cases ry;exact PySem.EqNone.eq_int_none (XS I q (by simp))
  |int j=>obtain⟨t',rfl⟩:=ry;exact eq_int (XS I q FG)
  |str j=>obtain⟨t',rfl⟩:=ry;exact PySem.EqMixed.eq_int_str (XS I q (by simp))
  |_=>exact absurd (show false=true from hs) Bool.false_ne_true
 |str i=>
  obtain⟨t,rfl⟩:=rx
  cases y with
  |non=>cases ry;exact PySem.EqNone.eq_str_none (XS I q (by simp))
  |bl j=>cases ry;exact PySem.EqMixed.eq_str_bool (XS I q (by simp))
  |int j=>obtain⟨t',rfl⟩:=ry;exact PySem.EqMixed.eq_str_int (XS I q (by simp))
  |str j=>obtain⟨t',rfl⟩:=ry;exact eq_str (XS I q FY)
  |_=>exact absurd (show false=true from hs) Bool.false_ne_true
 |byt i=>
  obtain⟨t,rfl⟩:=rx
  cases y with
  |byt j=>obtain⟨t',rfl⟩:=ry;exact PySem.W.eq_bytes (XS I q Dh)
  |_=>exact absurd (show false=true from hs) Bool.false_ne_true
 |_=>cases y<;> exact absurd (show false=true from hs) Bool.false_ne_true
theorem Gz:OpR X (compareOp .NotEq) rNe:=by
 intro pins s σ H x y v u Q I rx ry h
 obtain⟨hs,q⟩:=h
 cases x with
 |non=>
  cases rx
  cases y with
  |non=>cases ry;exact PySem.EqNone.ne_none_none (XS I q (by simp))
  |bl j=>cases ry;exact PySem.EqNone.ne_none_bool (XS I q (by simp))
  |int j=>obtain⟨t',rfl⟩:=ry;exact PySem.EqNone.ne_none_int (XS I q (by simp))
  |str j=>obtain⟨t',rfl⟩:=ry;exact PySem.EqNone.ne_none_str (XS I q (by simp))
  |_=>exact absurd (show false=true from hs) Bool.false_ne_true
 |bl i=>
  cases rx
  cases y with
  |non=>cases ry;exact PySem.EqNone.ne_bool_none (XS I q (by simp))
  |bl j=>cases ry;exact ne_bool (XS I q (congrArg not Bl))
  |str j=>obtain⟨t',rfl⟩:=ry;exact PySem.EqMixed.ne_bool_str (XS I q (by simp))
  |_=>exact absurd (show false=true from hs) Bool.false_ne_true
 |int i=>
  obtain⟨t,rfl⟩:=rx
  cases y with
  |non=>cases ry;exact PySem.EqNone.ne_int_none (XS I q (by simp))
  |int j=>obtain⟨t',rfl⟩:=ry;exact ne_int (XS I q (congrArg not FG))
  |str j=>obtain⟨t',rfl⟩:=ry;exact PySem.EqMixed.ne_int_str (XS I q (by simp))
  |_=>exact absurd (show false=true from hs) Bool.false_ne_true
 |str i=>
  obtain⟨t,rfl⟩:=rx
  cases y with
  |non=>cases ry;exact PySem.EqNone.ne_str_none (XS I q (by simp))
  |bl j=>cases ry;exact PySem.EqMixed.ne_str_bool (XS I q (by simp))
  |int j=>obtain⟨t',rfl⟩:=ry;exact PySem.EqMixed.ne_str_int (XS I q (by simp))
  |str j=>obtain⟨t',rfl⟩:=ry;exact ne_str (XS I q (congrArg not FY))
  |_=>exact absurd (show false=true from hs) Bool.false_ne_true
 |byt i=>
  obtain⟨t,rfl⟩:=rx
  cases y with
  |byt j=>obtain⟨t',rfl⟩:=ry;exact PySem.W.ne_bytes (XS I q (congrArg not Dh))
  |_=>exact absurd (show false=true from hs) Bool.false_ne_true
 |_=>cases y<;> exact absurd (show false=true from hs) Bool.false_ne_true
theorem UA:OpR X (compareOp .Lt) (rI0 λi j=>.bl (decide (i<j))):=HK λ_ _ _ _ _ _ _ q=>lt_int q
theorem CP:OpR X (compareOp .LtE) (rI0 λi j=>.bl (decide (i<=j))):=HK λ_ _ _ _ _ _ _ q=>le_int q
theorem U7:OpR X (compareOp .Gt) (rI0 λi j=>.bl (decide (j<i))):=HK λ_ _ _ _ _ _ _ q=>gt_int q
theorem Ex:OpR X (compareOp .GtE) (rI0 λi j=>.bl (decide (j<=i))):=HK λ_ _ _ _ _ _ _ q=>ge_int q
theorem OpR.or {f:Value->Value->Sem Value}{r r':R2}(h:OpR X f r)(h':OpR X f r'):OpR X f (λx y H Q=>r x y H Q∨r' x y H Q):=by
 intro pins s σ H x y v u Q I rx ry q
 rcases q with q |q
 ·exact h pins s σ H x y v u Q I rx ry q
 ·exact h' pins s σ H x y v u Q I rx ry q
theorem Xv (b:Expr){op:CmpOp}(h:op≠ .In:=by decide)(h2:op≠ .NotIn:=by decide):behindInMarks op b=false:=by
 have e1:(op==CmpOp.In)=false:=by cases op<;> first |rfl |exact absurd rfl h
 have e2:(op==CmpOp.NotIn)=false:=by cases op<;> first |rfl |exact absurd rfl h2
 cases b<;> simp[behindInMarks,e1,e2]
theorem VY {op:CmpOp}{r:R2}(ho:OpR X (compareOp op) r)(ha:PE X a ta)(hb:PE X b tb)(hm:behindInMarks op b=false):PE X (.Compare a [op] [b] pos) (tOp r ta tb):=by
 intro pins s σ H Q I h
 exact wpAny_Compare1 (Ia ha hb I h λv u s2 x y H2 I2 rx ry q=>ho pins s2 σ H2 x y v u Q I2 rx ry q) hm
noncomputable def BO (t:TE):TT:=λσ H Q=>t σ H λx H'=>∃ k,x= .bl k/\Q k H'
theorem Xm {op:CmpOp}{r:R2}(ho:OpR X (compareOp op) r)(ha:PE X a ta)(hb:PE X b tb)(hm:behindInMarks op b=false):PT X (.Compare a [op] [b] pos) (BO (tOp r ta tb)):=by
 intro pins s σ H Q I h
 refine wpAny_isTrue_Compare1 (thn (ha pins s σ H _ I h) λv s1 ⟨x,H1,I1,r1,q1⟩=>thn (hb pins s1 σ H1 _ I1 q1) λu s2 ⟨y,H2,I2,r2,q2⟩=>
  thn (ho pins s2 σ H2 x y v u _ I2 r1 r2 q2) λc s3 ⟨z,H3,I3,r3,k,e,q3⟩=>?_) hm
 subst e
 cases r3
 exact wpAny_truthy_bool ⟨H3,I3,q3⟩
noncomputable def De (r r':R2)(ta tb tc:TE):TE:=λσ H Q=>ta σ H λx H1=>tb σ H1 λy H2=>r x y H2 λz H3=>∃ k,z= .bl k/\
 (if k=true then tc σ H3 λw' H4=>r' y w' H4 Q else Q (.bl false) H3)
theorem CS {op op':CmpOp}{r r':R2}(ho:OpR X (compareOp op) r)(ho':OpR X (compareOp op') r')(ha:PE X a ta)(hb:PE X b tb)(hc:PE X c tc)
  (hm:lastMarks [op,op'] [b,c]=false:=by with_unfolding_all rfl):PE X (.Compare a [op,op'] [b,c] pos) (De r r' ta tb tc):=by
 intro pins s σ H Q I h
 refine Compare_chain (thn (ha pins s σ H _ I h) λv s1 ⟨x,H1,I1,r1,q1⟩=>chain_link (thn (hb pins s1 σ H1 _ I1 q1) λu s2 ⟨y,H2,I2,r2,q2⟩=>
  thn (ho pins s2 σ H2 x y v u _ I2 r1 r2 q2) λd s3 ⟨z,H3,I3,r3,k,e,q3⟩=>?_)) hm
 subst e
 cases r3
 refine wpAny_truthy_bool ?_
 cases k with
 |false=>exact ite_ff ⟨.bl false,H3,I3,rfl,q3⟩
 |true=>exact ite_tt (chain_last (thn (hc pins s3 σ H3 _ I3 q3) λw' s4 r9=>by obtain⟨z',H4,I4,r4,q4⟩:=r9;exact ho' pins s4 σ H4 y z' u w' Q I4 r2 r4 q4))
theorem Gb {op op':CmpOp}{r r':R2}(ho:OpR X (compareOp op) r)(ho':OpR X (compareOp op') r')(ha:PE X a ta)(hb:PE X b tb)(hc:PE X c tc)
  (hm:lastMarks [op,op'] [b,c]=false:=by with_unfolding_all rfl):PT X (.Compare a [op,op'] [b,c] pos) (BO (De r r' ta tb tc)):=by
 intro pins s σ H Q I h
 refine isTrue_chain (thn (ha pins s σ H _ I h) λv s1 ⟨x,H1,I1,r1,q1⟩=>test_link (thn (hb pins s1 σ H1 _ I1 q1) λu s2 ⟨y,H2,I2,r2,q2⟩=>
  thn (ho pins s2 σ H2 x y v u _ I2 r1 r2 q2) λd s3 ⟨z,H3,I3,r3,k,e,q3⟩=>?_)) hm
 subst e
 cases r3
 refine wpAny_truthy_bool ?_
 cases k with
 |false=>
  obtain⟨k',e',q'⟩:=q3
  cases e'
  exact ite_ff ⟨H3,I3,q'⟩
 |true=>
  refine ite_tt (test_last (thn (hc pins s3 σ H3 _ I3 q3) λw' s4 ⟨z',H4,I4,r4,q4⟩=>thn (ho' pins s4 σ H4 y z' u w' _ I4 r2 r4 q4) λd' s5 r9=>?_))
  obtain⟨z2,H5,I5,r5,k2,e2,q5⟩:=r9
  subst e2
  cases r5
  exact wpAny_truthy_bool ⟨H5,I5,q5⟩
theorem Uq:(sizeLine:Nat)<2^63:=by rw[sizeLine_eq];decide
theorem Kb {x:V}{us:List Value}(r:XT [x] us):∃u,us=[u]/\X8 x u:=by
 cases r with
 |cons r1 r2=>cases r2;exact⟨_,rfl,r1⟩
theorem Vj:ZJ X (.builtin "abs") (λxs H Q=>∃ i,xs=[.int i]/\Q (.int (if i<0 then-i else i)) H):=by
 intro pins s σ H xs us Q I r h
 obtain⟨i,rfl,q⟩:=h
 obtain⟨u,rfl,t,rfl⟩:=Kb r
 exact call_abs_int λu tk=>⟨.int (if i<0 then-i else i),H,I.tok _,⟨_,rfl⟩,q⟩
theorem ZN:ZJ X (.type "str") (λxs H Q=>∃ i,xs=[.int i]/\i.natAbs.log2<1920/\Q (.str (toString i)) H):=by
 intro pins s σ H xs us Q I r h
 obtain⟨i,rfl,hz,q⟩:=h
 obtain⟨u,rfl,t,rfl⟩:=Kb r
 exact PySem.P.str_of_int hz ⟨.str _,H,I.tok _,⟨_,rfl⟩,q⟩
end
structure ObjM (h:Heap)(x dx C:Addr)(mA:Str->Option Value):Prop where
 obj:h.get? x=some (PySem.W.instObj C dx)
 ns:h.Ns1 dx mA
 ne:dx≠x
theorem DF {h:Heap}{dx:Addr}{mA:Str->Option Value}(n:h.Ns1 dx mA):∃od,h.get? dx=some od/\∀name,PySem.W.lookIn name od=some (mA name):=by
 obtain⟨o,es,ep,ho,hd,hk,_,hm⟩:=n
 refine⟨o,ho,λname=>?_⟩
 have e:=hm name
 unfold nsFind findBy at e
 rw[←Array.find?_toList] at e
 unfold PySem.W.lookIn
 rw[hd]
 dsimp only
 split
 ·rename_i y q
  rw[q] at e
  exact congrArg some e
 ·rename_i q
  rw[q] at e
  have a:es.toList.any (·.refKey)=false:=by
   rw[List.any_eq_false]
   intro y hy
   obtain⟨z,t,hkey⟩:=hk y (Array.mem_toList_iff.mp hy)
   simp[DictEntry.refKey,hkey]
  have a':¬es.toList.any (·.refKey)=true:=by rw[a];exact Bool.false_ne_true
  rw[if_neg a']
  exact congrArg some e
theorem ObjM.look {h:Heap}{x dx C:Addr}{mA:Str->Option Value}(I:ObjM h x dx C mA):∃od,PySem.W.InstAt h x (PySem.W.instObj C dx) C (some od)/\∀name,PySem.W.lookIn name od=some (mA name):=
 let ⟨od,ho,hl⟩:=DF I.ns
 ⟨od,⟨I.obj,rfl,rfl,ho⟩,hl⟩
section
variable {prog:Program}{w:World}{A:Around}{E:Value->Shared->Prop}{s:Shared}{K:PySem.W.Frag}{x dx C f:Addr}{mA:Str->Option Value}{name:Str}{v:Value}
end
section
variable {P:Program}{w:World}{H H':Hp}{h h':Heap}{a C dx:Addr}{fs fs':List (Str×V)}
theorem En (hok:HOk P w H h)(e:H a=some (.ins C dx fs)):∃mA,ObjM h a dx C mA/\(∀f,Ca (fs.lookup f) (mA f))/\PySem.Within mA (fs.map (·.1))/\fs.length<=1000/\H dx=some (.own a):=by
 obtain⟨d,z,ne,ob,mA,n,r,q⟩:=(show YU P w H h a (.ins C dx fs) from hok a _ e)
 exact⟨mA,⟨ob,n,ne⟩,r,q,z,d⟩
end
structure Cls (K:PySem.W.Frag)(C:Addr):Prop where
 pg:PySem.W.plainGet K C Str.empty=true
 hd:PySem.W.hasDictIn K C=true
 po:PySem.W.plainOver K C=true
 sa:PySem.W.findIn K (.ref C) "__setattr__" =some (some (.builtin "object.__setattr__"))
theorem Cls.get {K:PySem.W.Frag}{C:Addr}(c:Cls K C)(f:Str):PySem.W.plainGet K C f=true:=c.pg
section
variable {X:Cx}{pins:List (Addr×Obj)}{σ:St}{H:Hp}{s:Shared}{a C dx:Addr}{fs:List (Str×V)}{f:Str}{v:V}{A:Around}{E:Value->Shared->Prop}
theorem Inv.made (I:Inv X pins σ H s):Inv X pins σ (upd (upd H s.heap.objs.size (.own (s.heap.objs.size+1))) (s.heap.objs.size+1) (.ins C s.heap.objs.size []))
  {s with heap:=(s.heap.push PySem.W.emptyDict).push (PySem.W.instObj C s.heap.objs.size)}:=by
 have e1:(s.heap.push PySem.W.emptyDict).get? s.heap.objs.size=some PySem.W.emptyDict:=Heap.get?_push_size s.heap rfl
 have e2:((s.heap.push PySem.W.emptyDict).push (PySem.W.instObj C s.heap.objs.size)).get? (s.heap.objs.size+1)=some (PySem.W.instObj C s.heap.objs.size):=by
  have:=Heap.get?_push_size (s.heap.push PySem.W.emptyDict) (o:=PySem.W.instObj C s.heap.objs.size) rfl
  rwa [Heap.size_push] at this
 have e3:(s.heap.push PySem.W.emptyDict).Ns s.heap.objs.size (λ_=>none):=⟨PySem.W.emptyDict, #[],_,e1,rfl,(λe he=>absurd he (by simp)),λ_=>rfl⟩
 have I1:=I.laid (a:=s.heap.objs.size) (o:=.own (s.heap.objs.size+1)) (h':=s.heap.push PySem.W.emptyDict) (t':=s.toks) (λb u q=>Heap.get?_push_of_some _ q) (Nat.le_refl _) ⟨_,e1⟩
 refine I1.laid (a:=s.heap.objs.size+1) (o:=.ins C s.heap.objs.size []) (t':=s.toks) (λb u q=>Heap.get?_push_of_some _ q) (Nat.le_of_eq (Heap.size_push _ _)) ?_
 have ne:s.heap.objs.size≠s.heap.objs.size+1:=Nat.ne_of_lt (Nat.lt_succ_self _)
 refine⟨by rw[Xw ne,Yf],Nat.zero_le _,ne,e2,λ_=>none,(Heap.Ns1.of_empty e3).at λo q=>Heap.get?_push_of_some _ q,λ_=>True.intro,λy hy=>absurd rfl hy⟩
end
section
variable {X:Cx}{o e value:Expr}{f:Str}{pos pos' tpos:Pos}{ta tv:TE}
end
section
variable {X:Cx}{pins:List (Addr×Obj)}{σ:St}{H:Hp}{s:Shared}{A:Around}{E:Value->Shared->Prop}{Q:Value->Shared->Prop}{c:Value}{b:Bool}
inductive TyOf (K:PySem.W.Frag)(H:Hp):V->Value->Prop where
 |non:TyOf K H .non (.type "NoneType")
 |bl (x:Bool):TyOf K H (.bl x) (.type "bool")
 |int (i:Int):TyOf K H (.int i) (.type "int")
 |str (x:Str):TyOf K H (.str x) (.type "str")
 |flt (x:UInt64):TyOf K H (.flt x) (.type "float")
 |lst {a:Addr}{xs:List V} (e:H a=some (.lst xs)):TyOf K H (.ref a) (.type "list")
 |frz {a:Addr}{o:Obj}{xs:List V} (e:H a=some (.frz o (.lst xs))):TyOf K H (.ref a) (.type "list")
 |tup {a:Addr}{xs:List V} (e:H a=some (.tup xs)):TyOf K H (.ref a) (.type "tuple")
 |dK {a:Addr}{kvs:List (Key×V)} (e:H a=some (.dK kvs)):TyOf K H (.ref a) (.type "dict")
 |dT {a:Addr}{kvs:List (List Key×V)} (e:H a=some (.dT kvs)):TyOf K H (.ref a) (.type "dict")
 |ins {a C dx:Addr}{fs:List (Str×V)} (e:H a=some (.ins C dx fs)) (cl:Cls K C) (ha:PySem.W.findIn K (.ref C) "__class__" =some (some (.builtin "object.__class__")))
   (hn:PySem.W.specialIn K (.builtin "object.__class__") "__get__" =some (some (.builtin "getset_descriptor.__get__"))) (htk:PySem.W.takesIn K (.builtin "object.__class__")=some true)
   (hm:PySem.W.mroIn K C (.type "object")=some true):TyOf K H (.ref a) (.ref C)
theorem GR {x:V}{u t:Value}(I:Inv X pins σ H s)(rx:X8 x u)(ty:TyOf X.K H x t)(e:PySem.W.kitOne X.K t c=some b)(h:∀tk,Q (.bool b) {s with toks:=tk}):
  wpAny (model X.prog X.w) A (call (.builtin "isinstance") [u,c]) Q E s:=by
 cases ty with
 |non=>cases(show u=Value.none from rx);exact PySem.W.kia_one PySem.W.kitx_none I.kIn True.intro e (λz=>nomatch z) h
 |bl y=>cases(show u=Value.bool y from rx);exact PySem.W.kia_one PySem.W.kitx_bool I.kIn True.intro e (λz=>nomatch z) h
 |int i=>obtain⟨t,q⟩:=(show ∃t,u=Value.int i t from rx);cases q;exact PySem.W.kia_one PySem.W.kitx_int I.kIn True.intro e (λz=>nomatch z) h
 |str y=>obtain⟨t,q⟩:=(show ∃t,u=Value.str y t from rx);cases q;exact PySem.W.kia_one PySem.W.kitx_str I.kIn True.intro e (λz=>nomatch z) h
 |flt y=>obtain⟨t,q⟩:=(show ∃t,u=Value.float y t from rx);cases q;exact PySem.W.kia_one PySem.W.kitx_float I.kIn True.intro e (λz=>nomatch z) h
 | @lst a xs ea=>
  cases(show u=Value.ref a from rx)
  obtain⟨_,_,n,_,h1⟩:=(show YU X.prog X.w H s.heap a (.lst xs) from I.hok a _ ea)
  exact PySem.W.kia_one PySem.W.kitx_list I.kIn ⟨_,h1,rfl⟩ e (λz=>nomatch z) h
 | @frz a ob xs ea=>
  cases(show u=Value.ref a from rx)
  obtain⟨_,_,_,n,_,h1⟩:=(show YU X.prog X.w H s.heap a (.frz ob (.lst xs)) from I.hok a _ ea)
  exact PySem.W.kia_one PySem.W.kitx_list I.kIn ⟨_,h1,rfl⟩ e (λz=>nomatch z) h
 | @tup a xs ea=>
  cases(show u=Value.ref a from rx)
  obtain⟨_,_,_,p⟩:=(show YU X.prog X.w H s.heap a (.tup xs) from I.hok a _ ea)
  obtain⟨o,h1,h2,_⟩:=p
  exact PySem.W.kia_one PySem.W.kitx_tuple I.kIn ⟨o,h1,h2.1⟩ e (λz=>nomatch z) h
 | @dK a kvs ea=>
  cases(show u=Value.ref a from rx)
  obtain⟨_,_,vs,_,p⟩:=(show YU X.prog X.w H s.heap a (.dK kvs) from I.hok a _ ea)
  obtain⟨o,es,ep,h1,h2,_⟩:=p
  exact PySem.W.kia_one PySem.W.kitx_dict I.kIn ⟨o,h1,h2.1⟩ e (λz=>nomatch z) h
 | @dT a kvs ea=>
  cases(show u=Value.ref a from rx)
  obtain⟨_,_,xs,_,o,es,ep,h1,h2,_⟩:=(show YU X.prog X.w H s.heap a (.dT kvs) from I.hok a _ ea)
  exact PySem.W.kia_one PySem.W.kitx_dict I.kIn ⟨o,h1,h2.1⟩ e (λz=>nomatch z) h
 | @ins a C dx fs ea cl ha hn htk hm=>
  cases(show u=Value.ref a from rx)
  obtain⟨mA,O,_⟩:=En I.hok ea
  obtain⟨od,J,_⟩:=O.look
  exact PySem.W.kia_one (PySem.W.kitx_own (cl.get _) cl.hd ha hn htk hm) I.kIn J e (λz=>nomatch z) h
end
structure Room (k:Nat)(A:Around):Prop where
 hd:A.handled=none
 dp:A.depth+3*k+5<recursionLimit
 un:A.units+16*k+200<cLine
theorem Room.mono {j k:Nat}{A:Around}(r:Room k A)(h:j<=k):Room j A:=⟨r.hd,by have:=r.dp;omega,by have:=r.un;omega⟩
theorem Room.deeper {k:Nat}{A:Around}(r:Room (k+1) A)(env:Env):Room k (A.deeper env):=
 ⟨r.hd,by have:=r.dp;show A.depth+1+3*k+5<_;omega,by have:=r.un;show A.units+3+16*k+200<_;omega⟩
theorem Room.in1 {k:Nat}{A:Around}(r:Room (k+1) A):Room k A.in1:=
 ⟨r.hd,by have:=r.dp;show A.depth+3*k+5<_;omega,by have:=r.un;show A.units+1+16*k+200<_;omega⟩
theorem Room.depth {k:Nat}{A:Around}(r:Room k A):A.depth<recursionLimit:=by have:=r.dp;omega
theorem Room.units {k:Nat}{A:Around}(r:Room k A):A.units+64<cLine:=by have:=r.un;omega
noncomputable def Zy:TA:=λ_ H Q=>Q [] H
noncomputable def XA (ta:TE)(tr:TA):TA:=λσ H Q=>ta σ H λx H1=>tr σ H1 λxs H2=>Q (x::xs) H2
section
variable {X:Cx}{e:Expr}{es:List Expr}{te:TE}{t:TA}{pos:Pos}
theorem Xh:PA X [] Zy:=λ_ _ _ _ H Q I h=>Calls.spliced_nil ⟨[],H,I, .nil,h⟩
theorem Xc (ha:PE X e te)(hr:PA X es t)(hs:starEach (e::es) X.env=(false,eval e X.env)::starEach es X.env:=by rfl):PA X (e::es) (XA te t):=by
 intro pos pins s σ H Q I h
 rw[hs]
 show wpAny _ _ (spliced ((false,eval e X.env)::backTo pos (starEach es X.env))) _ _ s
 refine Calls.spliced_cons (thn (ha pins s σ H _ I h) λu s1 r9=>?_)
 obtain⟨x,H1,I1,r1,q1⟩:=r9
 exact thn (hr pos pins s1 σ H1 _ I1 q1) λus s2 r9=>by obtain⟨xs,H2,I2,r2,q2⟩:=r9;exact⟨x::xs,H2,I2, .cons r1 r2,q2⟩
noncomputable def HW (t:TA):TE:=λσ H Q=>t σ H λxs H1=>xs.length<=sizeLine/\∀p,H1 p=none->Q (.ref p) (upd H1 p (.tup xs))
noncomputable def CL (t:TA):TE:=λσ H Q=>t σ H λxs H1=>xs.length<=sizeLine/\∀p,H1 p=none->Q (.ref p) (upd H1 p (.lst xs))
theorem QN {x1}(h:PA X es t):PE X (.Tuple es x1 pos) (HW t):=by
 intro pins s σ H Q I hq
 refine wpAny_Tuple_spliced (thn (h pos pins s σ H _ I hq) λus s1 ⟨xs,H1,I1,r,z,q⟩=>⟨by rw[←r.length];exact z,?_⟩)
 have hf:H1 s1.heap.objs.size=none:=I1.hok.fresh (Nat.le_refl _)
 refine⟨.ref s1.heap.objs.size,upd H1 s1.heap.objs.size (.tup xs),I1.laid (t':=s1.toks) (λb u e=>Heap.get?_push_of_some _ e) (Nat.le_refl _) ?_,rfl,q _ hf⟩
 exact⟨z,us,r,⟨_,Heap.get?_push_size _ rfl,⟨rfl,rfl⟩,_,rfl⟩⟩
theorem Ye (h:PA X es t):PE X (.List es pos) (CL t):=by
 intro pins s σ H Q I hq
 refine wpAny_List_spliced (thn (h pos pins s σ H _ I hq) λus s1 ⟨xs,H1,I1,r,z,q⟩=>⟨by rw[←r.length];exact z,?_⟩)
 have hf:H1 s1.heap.objs.size=none:=I1.hok.fresh (Nat.le_refl _)
 refine⟨.ref s1.heap.objs.size,upd H1 s1.heap.objs.size (.lst xs),I1.laid (t':=s1.toks) (λb u e=>Heap.get?_push_of_some _ e) (Nat.le_refl _) ?_,rfl,q _ hf⟩
 exact⟨z,us,0,r,Heap.get?_push_size _ rfl⟩
end
noncomputable abbrev Sp:=List V->Hp->VK->XK->Prop
noncomputable abbrev CXT:=List Env->Hp->Shared->XK->Value->Shared->Prop
structure Env0 (P:Program)(w:World)(K:PySem.W.Frag)(mg:Str->Option Value)(base:Heap)(A:Around)(outer:List Env)(s:Shared)(H:Hp):Prop where
 frames:A.frames=some outer
 mod:Mod K mg base
 bs:∀b o,base.get? b=some o->s.heap.get? b=some o/\H b=none
 bsz:base.objs.size<=s.heap.objs.size
 funs:s.heap.FunFrames base outer
 frf:∀b∈frs outer,H b=none
 hok:HOk P w H s.heap
 bare:AllBare s.gens
noncomputable def CE (outer:List Env)(P:Program)(w:World)(H:Hp)(s:Shared)(Q:VK)(u:Value)(s':Shared):Prop:=
 ∃v H',s'.os=s.os/\AllBare s'.gens/\Un (frs outer) [] H H' s.heap s'.heap/\HOk P w H' s'.heap/\X8 v u/\Q v H'
noncomputable def CR (CX:CXT)(outer:List Env)(P:Program)(w:World)(H:Hp)(s:Shared)(Q:VK)(E:XK)(r:Result)(s':Shared):Prop:=
 match r with
 | .ok (.ret u)=>CE outer P w H s Q u s'
 | .ok _=>False
 | .error e=>CX outer H s E e s'
structure FnOk (P:Program)(w:World)(K:PySem.W.Frag)(mg:Str->Option Value)(base:Heap)(CX:CXT)(k:Nat)(f:Addr)(fd:FuncData)(ps:List Str)(sp:Sp):Prop where
 len:∀vs H Q E,sp vs H Q E->vs.length=ps.length
 run:∀(A:Around) (outer:List Env) (s:Shared) (H:Hp) (args:Args) (us:List Value) (vs:List V) (Q:VK) (E:XK),Room k A->Env0 P w K mg base A outer s H->BindsTo s fd args (ps.zip us)->XT vs us->sp vs H Q E->
  codeAny (model P w) A (.call (.ref f) args) (CR CX outer P w H s Q E) s
theorem FnOk.mono {P:Program}{w:World}{K:PySem.W.Frag}{mg:Str->Option Value}{base:Heap}{CX:CXT}{j k:Nat}{f:Addr}{fd:FuncData}{ps:List Str}{sp:Sp}(F:FnOk P w K mg base CX j f fd ps sp)(h:j<=k):
  FnOk P w K mg base CX k f fd ps sp:=⟨F.len,λA outer s H args us vs Q E hr=>F.run A outer s H args us vs Q E (hr.mono h)⟩
theorem FnOk.imp {P:Program}{w:World}{K:PySem.W.Frag}{mg:Str->Option Value}{base:Heap}{CX:CXT}{k:Nat}{f:Addr}{fd:FuncData}{ps:List Str}{sp sp':Sp}(F:FnOk P w K mg base CX k f fd ps sp)
  (h:∀vs H Q E,sp' vs H Q E->sp vs H Q E):FnOk P w K mg base CX k f fd ps sp':=
 ⟨λvs H Q E q=>F.len vs H Q E (h _ _ _ _ q),λA outer s H args us vs Q E hr he hb hv hs=>F.run A outer s H args us vs Q E hr he hb hv (h _ _ _ _ hs)⟩
theorem Env0.in1 {P:Program}{w:World}{K:PySem.W.Frag}{mg:Str->Option Value}{base:Heap}{A:Around}{outer:List Env}{s:Shared}{H:Hp}(e:Env0 P w K mg base A outer s H):
  Env0 P w K mg base A.in1 outer s H:=⟨e.frames,e.mod,e.bs,e.bsz,e.funs,e.frf,e.hok,e.bare⟩
section
variable {X:Cx}{pins:List (Addr×Obj)}{σ:St}{H:Hp}{s s':Shared}
theorem Inv.env0 (I:Inv X pins σ H s):Env0 X.prog X.w X.K X.mg X.base X.A X.stack s H:=
 ⟨I.ok.frames,I.ok.mod,I.bs,Nat.le_trans I.ok.bsz I.sz,I.stack,I.stkFree,I.hok,I.bare⟩
theorem Inv.after {Q:VK}{u:Value}(I:Inv X pins σ H s)(h:CE X.stack X.prog X.w H s Q u s'):EP X pins σ Q u s':=by
 obtain⟨v,H',os,bare,un,hok,r,q⟩:=h
 obtain⟨hh,g,d,t,os'⟩:=s'
 obtain rfl:os'=s.os:=os
 exact⟨v,H',I.call (h':=hh) (g':=g) (d':=d) (t':=t) (ch:=[]) un hok bare (λb z=>absurd z (by simp)),r,q⟩
end
noncomputable def Um (sp:Sp)(dvs:List V)(E:XK)(t:TA):TE:=λσ H Q=>t σ H λvs H1=>sp (vs++dvs) H1 Q E
noncomputable def UE (K:PySem.W.Frag)(fd:FuncData)(ps:List Str)(ds:List Value):Prop:=
 ∀(s:Shared) (us:List Value),K.In s.heap->(us++ds).length=ps.length->BindsTo s fd ⟨us,[]⟩ (ps.zip (us++ds))
theorem UE.all {K:PySem.W.Frag}{fd:FuncData}{ps:List Str}(h:∀us:List Value,us.length=ps.length->bindArgs fd ⟨us,[]⟩=pure (ps.zip us)):UE K fd ps []:=λs us _ hl=>by
 rw[List.append_nil] at hl⊢
 exact .of_eq (h us hl)
noncomputable def QF (CX:CXT)(X:Cx)(E:XK):Prop:=∀ (pins:List (Addr×Obj)) (σ:St) (H:Hp) (s:Shared) (e:Value) (s':Shared),Inv X pins σ H s->CX X.stack H s E e s'->X.xe e s'
section
variable {X:Cx}{CX:CXT}{k:Nat}{f C:Addr}{fd:FuncData}{ps:List Str}{sp:Sp}{dvs:List V}{ds:List Value}{E:XK}{x m:Str}{p pos apos:Pos}{e o:Expr}{es:List Expr}{ta:TE}{t:TA}
theorem ER {pins:List (Addr×Obj)}{σ:St}{H:Hp}{s:Shared}{Q:VK}{us:List Value}{vs:List V}(F:FnOk X.prog X.w X.K X.mg X.base CX k f fd ps sp)(hr:Room k X.A)(hb:UE X.K fd ps ds)(hd:XT dvs ds)(hx:QF CX X E)
  (I:Inv X pins σ H s)(r:XT vs us)(h:sp (vs++dvs) H Q E):wpAny (model X.prog X.w) X.A (call (.ref f) us) (EP X pins σ Q) X.xe s:=by
 have r2:XT (vs++dvs) (us++ds):=r.append hd
 have hl:(us++ds).length=ps.length:=by rw[←r2.length];exact F.len _ _ _ _ h
 refine wpAny_call (codeAny_mono (F.run X.A X.stack s H ⟨us,[]⟩ (us++ds) (vs++dvs) Q E hr I.env0 (hb s us I.kIn hl) r2 h) λr s' hq=>?_)
 cases r with
 |error e=>exact hx pins σ H s e s' I hq
 |ok fl=>
  cases fl with
  |ret u=>exact I.after hq
  |next=>exact False.elim hq
  |brk=>exact False.elim hq
  |cont=>exact False.elim hq
theorem Fs (F:FnOk X.prog X.w X.K X.mg X.base CX k f fd ps sp)(hr:Room k X.A)(hg:Gl X x)(hm:X.mg x=some (.ref f))(hk:PySem.W.keepIn X.K (.ref f)=true)(hb:UE X.K fd ps ds)(hd:XT dvs ds)(hx:QF CX X E)
  (ha:PA X (e::es) t)(hdb:(x==("__debug__":Str))=false:=by decide)(he:starEach (e::es) X.env=(false,eval e X.env)::starEach es X.env:=by rfl)(hpl:(backTo pos (starEach es X.env)).any (·.1)=false:=by rfl):
  PE X (.Call (.Name x p) (e::es) [] pos) (Um sp dvs E t):=by
 intro pins s σ H Q I h
 refine wpAny_Call_Name_kw (VH I hg hm ?_ hdb)
 refine PySem.W.callWith_K (h₀:=X.base) I.ok.mod.kin hk (thn (ha pos pins s σ H _ I h) λus s1 ⟨vs,H1,I1,r,q⟩=>⟨I1.kIn,?_⟩) he hpl
 exact ER F hr hb hd hx I1 r q
end
section
variable {X:Cx}{CX:CXT}{k:Nat}{f C:Addr}{fd:FuncData}{ps ks:List Str}{sp:Sp}{E:XK}{x m:Str}{p pos apos kpos:Pos}{e o:Expr}{es:List Expr}{kws:List Keyword}{te ta:TE}{t tk:TA}{nm:Option Str}
variable {g:List Value->List Value->List Value}{gV:List V->List V->List V}
end
structure FnScope (N P:List Str)(sc:Scope):Prop where
 kind:sc.kind= .function
 co:sc.isCoroutine=false
 gen:sc.isGenerator=false
 nd:N.Nodup
 pre:N.take P.length=P
 par:∀x∈P,sc.names.lookup x=some .local∨sc.names.lookup x=some .cell
 nofree:∀y∈sc.names,y.2≠ .free
theorem UD {kindOf:Str->Option NameKind}{x:Str}:∀{binds:List (Str×Value)}{m:Str->Option Value},(∀v,(x,v)∉binds)->bindL kindOf binds m x=m x
 | [],_,_=>rfl
 | (n,v)::r,m,h=>by
  unfold bindL
  rw[UD λw hw=>h w (List.mem_cons_of_mem _ hw)]
  split
  ·have:x≠n:=by rintro rfl;exact h v List.mem_cons_self
   simp[this]
  ·rfl
theorem Ub {kindOf:Str->Option NameKind}{x:Str}:∀{binds:List (Str×Value)}{m:Str->Option Value},(∀v,(x,v)∉binds)->bindC kindOf binds m x=m x
 | [],_,_=>rfl
 | (n,v)::r,m,h=>by
  unfold bindC
  rw[Ub λw hw=>h w (List.mem_cons_of_mem _ hw)]
  split
  ·rfl
  ·have:x≠n:=by rintro rfl;exact h v List.mem_cons_self
   simp[this]
theorem Uw {kindOf:Str->Option NameKind}{x:Str}{v:Value}:∀{P:List Str}{vs:List Value}{i:Nat}{m:Str->Option Value},P.Nodup->P[i]?=some x->vs[i]?=some v->kindOf x=some .local->
  bindL kindOf (P.zip vs) m x=some v
 | [],_,_,_,_,h,_,_=>by simp at h
 |_::_,[],_,_,_,_,h,_=>by simp at h
 |p::P,w::vs,0,m,nd,h1,h2,hk=>by
  simp at h1 h2;subst h1;subst h2
  show bindL kindOf ((p,w)::P.zip vs) m p=_
  unfold bindL
  rw[UD λv hv=>(List.nodup_cons.mp nd).1 (List.of_mem_zip hv).1,if_pos hk]
  simp
 |p::P,w::vs,i+1,m,nd,h1,h2,hk=>by
  show bindL kindOf ((p,w)::P.zip vs) m x=_
  unfold bindL
  exact Uw (i:=i) (List.nodup_cons.mp nd).2 (by simpa using h1) (by simpa using h2) hk
theorem Ui {kindOf:Str->Option NameKind}{x:Str}{v:Value}:∀{P:List Str}{vs:List Value}{i:Nat}{m:Str->Option Value},P.Nodup->P[i]?=some x->vs[i]?=some v->kindOf x≠some .local->
  bindC kindOf (P.zip vs) m x=some v
 | [],_,_,_,_,h,_,_=>by simp at h
 |_::_,[],_,_,_,_,h,_=>by simp at h
 |p::P,w::vs,0,m,nd,h1,h2,hk=>by
  simp at h1 h2;subst h1;subst h2
  show bindC kindOf ((p,w)::P.zip vs) m p=_
  unfold bindC
  rw[Ub λv hv=>(List.nodup_cons.mp nd).1 (List.of_mem_zip hv).1,if_neg hk]
  simp
 |p::P,w::vs,i+1,m,nd,h1,h2,hk=>by
  show bindC kindOf ((p,w)::P.zip vs) m x=_
  unfold bindC
  exact Ui (i:=i) (List.nodup_cons.mp nd).2 (by simpa using h1) (by simpa using h2) hk
noncomputable def JG (N:List Str)(vs:List V):St:=vs.map some++List.replicate (N.length-vs.length) none
noncomputable def KS (CX:CXT)(P:Program)(w:World)(K:PySem.W.Frag)(mg:Str->Option Value)(base:Heap)(N:List Str)(qual:Str)(scope:Scope)(f:Addr)(cd:Value)(A:Around)(outer:List Env)(s:Shared)(H:Hp)(E:XK):Cx where
 prog:=P
 w:=w
 K:=K
 mg:=mg
 base:=base
 A:=A.deeper (envOfC qual scope s.heap.objs.size f cd)
 N:=N
 s₀:=s
 H₀:=H
 env:=envOfC qual scope s.heap.objs.size f cd
 outer:=outer
 stack:=envOfC qual scope s.heap.objs.size f cd::outer
 ex:=[]
 calm:=true
 fn:=λ_=>true
 pn:=[]
 xe:=λe s'=>wpAny (model P w) (A.deeper (envOfC qual scope s.heap.objs.size f cd)) (leaving (envOfC qual scope s.heap.objs.size f cd) e) (λ_ s''=>CX outer H s E e s'') (λe' s''=>CX outer H s E e' s'') s'
theorem Ku {sc:Scope}{n:Nat}{x:Str}(h:sc.names.lookup x=some .cell):∃c,(cellsFrom n sc.names []).lookup x=some c:=by
 have q:=PySem.W.cellsFrom_some sc.names n [] (.inl h)
 exact Option.isSome_iff_exists.mp q
theorem FU {CX:CXT}{P:Program}{w:World}{K:PySem.W.Frag}{mg:Str->Option Value}{base:Heap}{N ps:List Str}{qual:Str}{scope:Scope}{f:Addr}{cd:Value}{A:Around}{outer:List Env}{s s1:Shared}{H:Hp}{E:XK}{us:List Value}{vs:List V}
  (S:FnScope N ps scope)(hd:A.handled=none)(e0:Env0 P w K mg base A outer s H)(hl:vs.length=ps.length)(r:XT vs us)
  (x:InCallC s s.heap.objs.size (bindL (envOfC qual scope s.heap.objs.size f cd).kindOf (ps.zip us) λ_=>none) (cellsFrom (s.heap.objs.size+1) scope.names []) (bindC (envOfC qual scope s.heap.objs.size f cd).kindOf (ps.zip us) λ_=>none) s1):
  Inv (KS CX P w K mg base N qual scope f cd A outer s H E) [] (JG N vs) H s1:=by
 have hpl:ps.length<=N.length:=by have:=congrArg List.length S.pre;rw[List.length_take] at this;omega
 obtain⟨h1,tk,rfl,hk⟩:=x.done
 have noA:∀b:Addr,b∉(KS CX P w K mg base N qual scope f cd A outer s H E).ex:=λb z=>absurd (show b∈([]:List Addr) from z) (by simp)
 refine⟨⟨e0.mod,S.kind,rfl,rfl,Nat.le_refl _,λy z c h1 h2=>?_,λy hy=>?_,λy c _ h=>?_,λ_=>hd,Around.frames_deeper e0.frames, .inr ⟨rfl,rfl⟩,λb z=>absurd z (noA b),e0.bs,e0.bsz,λb _ _=>noA b,λb z=>absurd z (noA b),e0.funs,e0.frf⟩,
  rfl,e0.bare,Un.kept hk,⟨_,x.toInCall.ns,λi y v h1 h2 h3=>?_⟩,λy c h=>⟨_,x.cell y c h⟩,e0.hok.fresh (Nat.le_refl _),λy c h=>?_,λp hp=>absurd (show p∈([]:List (Addr×Obj)) from hp) (by simp),e0.hok.kept hk,?_⟩
 ·exact name_of_addr x.apart (PySem.mem_of_lookup h1) (PySem.mem_of_lookup h2)
 ·have hy:scope.names.lookup y=some .cell∨scope.names.lookup y=some .free:=hy
  rcases hy with hy |hy
  ·exact Ku hy
  ·exact absurd rfl (S.nofree _ (PySem.mem_of_lookup hy))
 ·exact Nat.le_of_lt (x.above y c (PySem.mem_of_lookup h))
 ·have hi:i<vs.length:=by
   unfold JG at h2
   by_cases hi:i<vs.length
   ·exact hi
   ·rw[List.getElem?_append_right (by simpa using hi)] at h2
    rw[List.getElem?_replicate] at h2
    split at h2<;> cases h2
  have ha:vs[i]?=some v:=by
   unfold JG at h2
   rw[List.getElem?_append_left (by simpa using hi),List.getElem?_map] at h2
   cases e:vs[i]? with
   |none=>rw[e] at h2;cases h2
   |some a=>rw[e] at h2;cases h2;rfl
  obtain⟨u,hu,rv⟩:=r.get ha
  have hp:ps[i]?=some y:=by
   rw[←S.pre,List.getElem?_take_of_lt (by omega)];exact h1
  have ndP:ps.Nodup:=by rw[←S.pre];exact S.nd.sublist (List.take_sublist _ _)
  refine⟨u,rv,?_⟩
  rcases S.par y (List.mem_of_getElem? hp) with k |k
  ·exact .inl ⟨k,Uw ndP hp hu k⟩
  ·obtain⟨c,e⟩:=Ku (n:=s.heap.objs.size+1) k
   refine .inr ⟨.inl k,c,e,?_⟩
   have q:=x.cell y c e
   rw[Ui ndP hp hu (by show scope.names.lookup y≠_;rw[k];decide)] at q
   exact q
 ·exact e0.hok.fresh (Nat.le_of_lt (x.above y c (PySem.mem_of_lookup h)))
 ·unfold JG
  show _=N.length
  rw[List.length_append,List.length_map,List.length_replicate]
  omega
theorem Hg {CX:CXT}{P:Program}{w:World}{K:PySem.W.Frag}{mg:Str->Option Value}{base:Heap}{k:Nat}{f:Addr}{name qual:Str}{params:Arguments}{body:List Stmt}{scope:Scope}{dV kV doc pm cdv ct oc:Value}{an od:Option Addr}
  {osl:Array (Option Value)}{N ps:List Str}{sp:Sp}(lk:K.lookup f=some ⟨oc,od, .func (PySem.W.fnOf name qual params body scope dV kV doc pm an cdv ct),osl⟩)(hcd:PySem.W.codeIn K cdv qual=true)(S:FnScope N ps scope)
  (len:∀vs H Q E,sp vs H Q E->vs.length=ps.length)
  (hbody:∀(A:Around) (outer:List Env) (s:Shared) (H:Hp) (vs:List V) (Q:VK) (E:XK),Room k (A.deeper (envOfC qual scope s.heap.objs.size f cdv))->sp vs H Q E->
   ∃t,PSs (KS CX P w K mg base N qual scope f cdv A outer s H E) body t/\t {nx:=λ_ H'=>Q .non H',rt:=Q} (JG N vs) H):
  FnOk P w K mg base CX (k+1) f (PySem.W.fnOf name qual params body scope dV kV doc pm an cdv ct) ps sp:=by
 refine⟨len,λA outer s H args us vs Q E hr e0 hb r hsp=>?_⟩
 have hl:=len _ _ _ _ hsp
 have KX:K.In s.heap:=e0.mod.kin.keeps λb o e=>(e0.bs b o e).1
 have lim:s.heap.NoLimit:=e0.mod.nolimit.keeps λb o e=>(e0.bs b o e).1
 have hkind:∀y∈ps.zip us,scope.names.lookup y.1=some .local∨(scope.names.lookup y.1=some .cell/\((cellsFrom (s.heap.objs.size+1) scope.names []).lookup y.1).isSome=true):=λ⟨n,v⟩ hy=>by
  rcases S.par n (List.of_mem_zip hy).1 with q |q
  ·exact .inl q
  ·exact .inr ⟨q,PySem.W.cellsFrom_some _ _ _ (.inl q)⟩
 refine codeAny_call_function hr.depth (KX _ _ lk) rfl S.co S.gen rfl (PySem.W.codeRec_of KX hcd) (hb _ _ _ _ ?_)
 refine wpAny_newFunctionEnv_cells S.kind hkind λenv he s1 x=>?_
 subst he
 refine⟨lim.keeps x.toInCall.keep,codeAny_func ?_⟩
 obtain⟨t,ht,hq⟩:=hbody A outer s H vs Q E (hr.deeper _) hsp
 have I:Inv (KS CX P w K mg base N qual scope f cdv A outer s H E) [] (JG N vs) H s1:=FU S hr.hd e0 hl r x
 refine wpAny_mono (ht [] s1 (JG N vs) H _ I hq) (λfl s' hs=>?_) λe s' hs=>hs
 have fin:∀{σ':St}{H':Hp}{v:V}{u:Value},Inv (KS CX P w K mg base N qual scope f cdv A outer s H E) [] σ' H' s'->X8 v u->Q v H'->CE outer P w H s Q u s':=
  fun {σ' H' v u} J rv q=>⟨v,H',J.os,J.bare,J.base,J.hok,rv,q⟩
 cases fl with
 |ret u=>
  obtain⟨v,σ',H',J,rv,q⟩:=hs
  exact fin J rv q
 |next=>
  obtain⟨σ',H',J,q⟩:=hs
  exact fin (v:=V.non) (u:=Value.none) J rfl q
 |brk=>
  obtain⟨_,_,_,q⟩:=hs
  exact False.elim q
 |cont=>
  obtain⟨_,_,_,q⟩:=hs
  exact False.elim q
section
variable {X:Cx}{x:Str}{p pos:Pos}{e:Expr}{es:List Expr}{t:TA}{id T:String}{r:List V->Hp->VK->Prop}
noncomputable def tCB (r:List V->Hp->VK->Prop)(t:TA):TE:=λσ H Q=>t σ H λvs H1=>r vs H1 Q
theorem Xt (hc:ZJ X (.builtin id) r)(hg:Gl X x)(hm:X.mg x=none)(hv:bootBuiltins x=some (.builtin id))(ha:PA X (e::es) t)(hn:x≠ "__name__":=by decide)(hdb:(x==("__debug__":Str))=false:=by decide)
  (he:starEach (e::es) X.env=(false,eval e X.env)::starEach es X.env:=by rfl)(hpl:(backTo pos (starEach es X.env)).any (·.1)=false:=by rfl):PE X (.Call (.Name x p) (e::es) [] pos) (tCB r t):=by
 intro pins s σ H Q I h
 refine wpAny_Call_Name_kw (J1 I hg hm hv ?_ hn hdb)
 exact PyProof.Rows.callWith_builtin1 (thn (ha pos pins s σ H _ I h) λus s1 r9=>by obtain⟨vs,H1,I1,r1,q1⟩:=r9;exact hc pins s1 σ H1 vs us Q I1 r1 q1) he hpl
theorem YR (hc:ZJ X (.type T) r)(hg:Gl X x)(hm:X.mg x=none)(hv:bootBuiltins x=some (.type T))(ha:PA X (e::es) t)(hn:x≠ "__name__":=by decide)(hdb:(x==("__debug__":Str))=false:=by decide)
  (he:starEach (e::es) X.env=(false,eval e X.env)::starEach es X.env:=by rfl)(hpl:(backTo pos (starEach es X.env)).any (·.1)=false:=by rfl):PE X (.Call (.Name x p) (e::es) [] pos) (tCB r t):=by
 intro pins s σ H Q I h
 refine wpAny_Call_Name_kw (J1 I hg hm hv ?_ hn hdb)
 exact PyProof.Rows.callWith_type1 (thn (ha pos pins s σ H _ I h) λus s1 r9=>by obtain⟨vs,H1,I1,r1,q1⟩:=r9;exact hc pins s1 σ H1 vs us Q I1 r1 q1) he hpl
end
end L2
namespace HT
open PySem PyProof.Rows
section
open PySem.SeqAt
open PySem.AutoSeq1 (wpAny_loadPart')
open PySem.MeetsSeq PySem.MeetsSeq2 PySem.MeetsSeq3
end
section
variable {prog:Program}{w:World}{A:Around}{E:Value->Shared->Prop}{s:Shared}
noncomputable def sIx (n d:Nat):Option Int->Nat
 |none=>d
 |some v=>if v<0 then(v+(n:Int)).toNat else min v.toNat n
theorem sIx_none (n d:Nat):sIx n d none=d:=rfl
theorem sIx_nat (n d k:Nat):sIx n d (some (k:Int))=min k n:=by
 show(if(k:Int)<0 then((k:Int)+(n:Int)).toNat else min (k:Int).toNat n)=min k n
 rw[if_neg (by omega),Int.toNat_natCast]
end
end HT
namespace L2
open PySem PySem.Spec PyProof.Rows
noncomputable abbrev TO:=St->Hp->(Option Int->Hp->Prop)->Prop
noncomputable def PO (X:Cx)(e:Option Expr)(t:TO):Prop:=
 ∀(pins:List (Addr×Obj)) (s:Shared) (σ:St) (H:Hp) (Q:Option Int->Hp->Prop),Inv X pins σ H s->t σ H Q->
  wpAny (model X.prog X.w) X.A (evalPart e X.env) (λu s'=>∃ o H',Inv X pins σ H' s'/\IsPart u o/\Q o H') X.xe s
noncomputable def Fv:TO:=λ_ H Q=>Q none H
noncomputable def EJ (t:TE):TO:=λσ H Q=>t σ H λx H1=>∃ i,x= .int i/\Q (some i) H1
section
variable {X:Cx}{e:Expr}{te:TE}{lo hi:Option Expr}{tl th:TO}{pos p2:Pos}
theorem Vn:PO X none Fv:=by
 intro pins s σ H Q I h
 rw[evalPart_none]
 exact wpAny_pure ⟨none,H,I, .none,h⟩
theorem Vy (h:PE X e te):PO X (some e) (EJ te):=by
 intro pins s σ H Q I hw
 rw[evalPart_some]
 refine thn (h pins s σ H _ I hw) λu s1 r9=>?_
 obtain⟨x,H1,I1,r1,q1⟩:=r9
 obtain⟨i,rfl,q⟩:=q1
 obtain⟨t,rfl⟩:=r1
 exact⟨some i,H1,I1, .int i t,q⟩
noncomputable def SlR (X:Cx)(r:V->Option Int->Option Int->Hp->VK->Prop):Prop:=
 ∀(pins:List (Addr×Obj)) (s:Shared) (σ:St) (H:Hp) (x:V) (v vl vu:Value) (lo hi:Option Int) (sl:Addr) (Q:VK),Inv X pins σ H s->X8 x v->s.heap.IsSliceOf sl vl vu .none->IsPart vl lo->IsPart vu hi->r x lo hi H Q->
  ∃T id,typeLookup (.type T) "__getitem__" =pure (some (.builtin id))/\s.TypeIs v T/\wpAny (model X.prog X.w) X.A (getItem v (.ref sl)) (EP X pins σ Q) X.xe s
theorem SlR.or {r r':V->Option Int->Option Int->Hp->VK->Prop}(h:SlR X r)(h':SlR X r'):SlR X (λx lo hi H Q=>r x lo hi H Q∨r' x lo hi H Q):=by
 intro pins s σ H x v vl vu lo hi sl Q I rx hs pl pu q
 rcases q with q |q
 ·exact h pins s σ H x v vl vu lo hi sl Q I rx hs pl pu q
 ·exact h' pins s σ H x v vl vu lo hi sl Q I rx hs pl pu q
noncomputable def tSl (r:V->Option Int->Option Int->Hp->VK->Prop)(te:TE)(tl th:TO):TE:=λσ H Q=>te σ H λx H1=>tl σ H1 λl H2=>th σ H2 λu H3=>r x l u H3 Q
theorem QV {r:V->Option Int->Option Int->Hp->VK->Prop}(hr:SlR X r)(he:PE X e te)(hl:PO X lo tl)(hu:PO X hi th):PE X (.Subscript e (.Slice lo hi none p2) pos) (tSl r te tl th):=by
 intro pins s σ H Q I h
 refine Subscript_ (thn (he pins s σ H _ I h) λv s1 r9=>?_)
 obtain⟨x,H1,I1,r1,q1⟩:=r9
 refine wpAny_Slice (thn (hl pins s1 σ H1 _ I1 q1) λvl s2 ⟨l,H2,I2,pl,q2⟩=>thn (hu pins s2 σ H2 _ I2 q2) λvu s3 r9=>?_)
 obtain⟨u,H3,I3,pu,q3⟩:=r9
 rw[evalPart_none]
 refine wpAny_pure ?_
 have I4:Inv X pins σ H3 {s3 with heap:=s3.heap.push {cls:=.type "slice",data:=.fields #[vl,vu, .none]}}:=I3.kept (t':=s3.toks) λb ob q=>Heap.get?_push_of_some _ q
 obtain⟨T,id,hT,ht,hg⟩:=hr pins {s3 with heap:=s3.heap.push {cls:=.type "slice",data:=.fields #[vl,vu, .none]}} σ H3 x v vl vu l u s3.heap.objs.size Q I4 r1 (Heap.IsSliceOf.new ..) pl pu q3
 show wpAny (model X.prog X.w) X.A (subscriptTail e (.Slice lo hi none p2) v (.ref s3.heap.objs.size)) (EP X pins σ Q) X.xe {s3 with heap:=s3.heap.push {cls:=.type "slice",data:=.fields #[vl,vu, .none]}}
 exact tail_any (ops:=[.ref s3.heap.objs.size,v]) ht hT hg (by with_unfolding_all rfl)
noncomputable def EG (xs:List V)(lo hi:Option Int):List V:=(xs.drop (HT.sIx xs.length 0 lo)).take (HT.sIx xs.length xs.length hi-HT.sIx xs.length 0 lo)
theorem Kk (xs:List V)(lo hi:Option Int):(EG xs lo hi).length<=xs.length:=by
 unfold EG
 rw[List.length_take,List.length_drop]
 omega
end
noncomputable def ixN (n:Nat)(i:Int):Option Nat:=if 0<=i then(if i<n then some i.toNat else none) else if-(n:Int)<=i then some (i+n).toNat else none
noncomputable def atI {α:Type}(xs:List α)(i:Int):Option α:=(ixN xs.length i).bind λj=>xs[j]?
theorem DI {n:Nat}{i:Int}{j:Nat}(h:ixN n i=some j):seqIndex? i n=some j/\j<n/\ -(n:Int)<=i/\i<n:=by
 unfold ixN at h
 by_cases h0:0<=i
 ·rw[if_pos h0] at h
  by_cases h1:i<n
  ·rw[if_pos h1] at h
   have e:i.toNat=j:=Option.some.inj h
   exact⟨by rw[seqIndex_of h0 h1,e],by omega,by omega,h1⟩
  ·rw[if_neg h1] at h;cases h
 ·rw[if_neg h0] at h
  by_cases h1: -(n:Int)<=i
  ·rw[if_pos h1] at h
   have e:(i+n).toNat=j:=Option.some.inj h
   exact⟨by rw[seqIndex_neg (by omega) h1,e],by omega,h1,by omega⟩
  ·rw[if_neg h1] at h;cases h
theorem FZ {α:Type}{xs:List α}{i:Int}{v:α}(h:atI xs i=some v):∃j,seqIndex? i xs.length=some j/\xs[j]?=some v/\j<xs.length/\ -(xs.length:Int)<=i/\i<xs.length:=by
 unfold atI at h
 cases e:ixN xs.length i with
 |none=>rw[e] at h;cases h
 |some j=>
  rw[e] at h
  obtain⟨h1,h2,h3,h4⟩:=DI e
  exact⟨j,h1,h,h2,h3,h4⟩
noncomputable def Es (b:Expr):Prop:=∀ o i,subscripted b false o i=operate [o,i] (getItem o i)
noncomputable def IxR (X:Cx)(r:R2):Prop:=
 ∀(value slice:Expr) (pins:List (Addr×Obj)) (s:Shared) (σ:St) (H:Hp) (x y:V) (v u:Value) (Q:VK),Inv X pins σ H s->X8 x v->X8 y u->r x y H Q->
  subscripted slice false v u=operate [v,u] (getItem v u)->wpAny (model X.prog X.w) X.A (subscriptTail value slice v u) (EP X pins σ Q) X.xe s
noncomputable def MtR (X:Cx)(id:String)(r:V->List V->Hp->VK->Prop):Prop:=
 ∀(pins:List (Addr×Obj)) (s:Shared) (σ:St) (H:Hp) (x:V) (xs:List V) (v:Value) (us:List Value) (Q:VK),Inv X pins σ H s->X8 x v->XT xs us->r x xs H Q->
  wpAny (model X.prog X.w) X.A (call (.builtin id) (v::us)) (EP X pins σ Q) X.xe s
section
variable {X:Cx}{a b:Expr}{ta tb:TE}{pos:Pos}
theorem IxR.or {r r':R2}(h:IxR X r)(h':IxR X r'):IxR X (λx y H Q=>r x y H Q∨r' x y H Q):=by
 intro value slice pins s σ H x y v u Q I rx ry q hs
 rcases q with q |q
 ·exact h value slice pins s σ H x y v u Q I rx ry q hs
 ·exact h' value slice pins s σ H x y v u Q I rx ry q hs
theorem MtR.or {id:String}{r r':V->List V->Hp->VK->Prop}(h:MtR X id r)(h':MtR X id r'):MtR X id (λx xs H Q=>r x xs H Q∨r' x xs H Q):=by
 intro pins s σ H x xs v us Q I rx rs q
 rcases q with q |q
 ·exact h pins s σ H x xs v us Q I rx rs q
 ·exact h' pins s σ H x xs v us Q I rx rs q
theorem X0 {r:R2}(hr:IxR X r)(ha:PE X a ta)(hb:PE X b tb)(hs:Es b):PE X (.Subscript a b pos) (tOp r ta tb):=by
 intro pins s σ H Q I h
 exact Subscript_ (Ia ha hb I h λv u s2 x y H2 I2 rx ry q=>hr a b pins s2 σ H2 x y v u Q I2 rx ry q (hs _ _))
noncomputable def Ei (K:PySem.W.Frag):R2:=λx y H Q=>∃ p xs i v,x= .ref p/\y= .int i/\SqL K H p xs/\atI xs i=some v/\Q v H
noncomputable def HP (K:PySem.W.Frag):R2:=λx y H Q=>∃ p xs i v,x= .ref p/\y= .int i/\SqT K H p xs/\atI xs i=some v/\Q v H
theorem BK:IxR X (Ei X.K):=by
 intro value slice pins s σ H x y v u Q I rx ry h hs
 obtain⟨p,xs,i,z,rfl,rfl,hq,he,q⟩:=h
 cases rx
 obtain⟨t,rfl⟩:=ry
 obtain⟨its,r,pl,hz⟩:=I.list hq
 obtain⟨j,h1,h2,h3,h4,h5⟩:=FZ he
 obtain⟨w,ew,rw'⟩:=r.get h2
 have hl:=r.length
 have hn:=Uq
 have fin:EP X pins σ Q w s:=⟨z,H,I,rw',q⟩
 by_cases h0:0<=i
 ·have hj:i.toNat=j:=by
   rw[seqIndex_of h0 h5] at h1
   exact Option.some.inj h1
  exact item_listR pl.isList h0 (by omega) (by rw[hj];simpa using ew) fin hs
 ·have hj:(i+(its.toArray.size:Int)).toNat=j:=by
   rw[seqIndex_neg (by omega) h4] at h1
   rw[List.size_toArray, ←hl]
   exact Option.some.inj h1
  exact subscriptTail_builtinR (x:=w) pl.isList.typeIs slot_list_getitem.lookup
   (wpAny_getItem_list_neg (Q:=λr s'=>r=w/\EP X pins σ Q r s') pl.isList (by omega) (by rw[List.size_toArray]<;> omega) (by omega) (by rw[hj];simpa using ew) ⟨rfl,fin⟩) hs
theorem Hk:IxR X (HP X.K):=by
 intro value slice pins s σ H x y v u Q I rx ry h hs
 obtain⟨p,xs,i,z,rfl,rfl,hq,he,q⟩:=h
 cases rx
 obtain⟨t,rfl⟩:=ry
 obtain⟨its,r,pl,hz⟩:=I.tuple hq
 obtain⟨j,h1,h2,h3,h4,h5⟩:=FZ he
 obtain⟨w,ew,rw'⟩:=r.get h2
 have hl:=r.length
 have hn:=Uq
 have fin:EP X pins σ Q w s:=⟨z,H,I,rw',q⟩
 exact subscriptTail_builtinR (x:=w) pl.typeIs slot_tuple_getitem.lookup
  (getItem_tuple (j:=j) (Q:=λr s'=>r=w/\EP X pins σ Q r s') pl (by omega) (by omega) (by rw[List.size_toArray, ←hl];exact h1) (by simpa using ew) ⟨rfl,fin⟩) hs
theorem Go (its:List Value)(n j:Nat)(u:Value):Obj.mapSeq (·.setIfInBounds j u) {cls:=.type "list",data:=.seq its.toArray n}={cls:=.type "list",data:=.seq (its.set j u).toArray n}:=by
 simp[Obj.mapSeq]
theorem Inv.lst {pins:List (Addr×Obj)}{σ:St}{H:Hp}{s:Shared}{p:Addr}{xs:List V}(I:Inv X pins σ H s)(h:H p=some (.lst xs)):
  ∃(its:List Value) (n:Nat),XT xs its/\s.heap.get? p=some {cls:=.type "list",data:=.seq its.toArray n}/\xs.length<=sizeLine:=by
 obtain⟨z,its,n,r,e⟩:=I.hok p _ h
 exact⟨its,n,r,e,z⟩
theorem Inv.lstUpd {pins:List (Addr×Obj)}{σ:St}{H:Hp}{s:Shared}{p:Addr}{xs ys:List V}{its its':List Value}{n n':Nat}{f:Obj->Obj}(I:Inv X pins σ H s)(h:H p=some (.lst xs))
  (ho:s.heap.get? p=some {cls:=.type "list",data:=.seq its.toArray n})(hf:f {cls:=.type "list",data:=.seq its.toArray n}={cls:=.type "list",data:=.seq its'.toArray n'})(r:XT ys its')(hz:ys.length<=sizeLine)(t:Nat):
  Inv X pins σ (upd H p (.lst ys)) {s with heap:=s.heap.update p f,toks:=t}:=by
 have e:(s.heap.update p f).get? p=some {cls:=.type "list",data:=.seq its'.toArray n'}:=by
  rw[Heap.get?_update_self f ho (by rw[hf]<;> rfl),hf]
 refine I.write (x:=p) (e:=p) (by rw[h];trivial) (.inl rfl) (λb u hb q=>(Heap.get?_update_other _ _ (Ne.symm hb)).trans q) ⟨_,e⟩ ?_
 exact⟨hz,its',n',r,e⟩
noncomputable def BH:V->V->V->Hp->(Hp->Prop)->Prop:=λo i v H Q=>∃ p xs k j,o= .ref p/\i= .int k/\H p=some (.lst xs)/\ixN xs.length k=some j/\Q (upd H p (.lst (xs.set j v)))
theorem VI:IC X BH:=by
 intro pins s σ H o i v ov iv u Q I ro ri rv h
 obtain⟨p,xs,k,j,rfl,rfl,hp,hj,q⟩:=h
 cases ro
 obtain⟨t,rfl⟩:=ri
 obtain⟨its,n,r,ho,hz⟩:=I.lst hp
 obtain⟨h1,h2,h3,h4⟩:=DI hj
 have hl:=r.length
 have hn:=Uq
 have I':Inv X pins σ (upd H p (.lst (xs.set j v))) {s with heap:=s.heap.update p (Obj.mapSeq (·.setIfInBounds j u))}:=
  I.lstUpd hp ho (Go its n j u) (r.set rv j) (by rw[List.length_set];exact hz) s.toks
 by_cases h0:0<=k
 ·have hk:k.toNat=j:=by
   rw[seqIndex_of h0 h4] at h1
   exact Option.some.inj h1
  exact PySem.W.ki_setAt ho h0 (by omega) (by rw[List.size_toArray, ←hl];exact h4) (by rw[hk];exact⟨_,I',q⟩)
 ·have hk:(k+(its.toArray.size:Int)).toNat=j:=by
   rw[seqIndex_neg (by omega) h3] at h1
   rw[List.size_toArray, ←hl]
   exact Option.some.inj h1
  exact PySem.W.ki_setBack ho (by omega) (by rw[List.size_toArray, ←hl];exact h3) (by omega) (by rw[hk];exact⟨_,I',q⟩)
theorem Uv (lo hi:Option Int)(n:Nat):(sliceBounds lo hi none n).1=((HT.sIx n 0 lo:Nat):Int)/\(sliceBounds lo hi none n).2.1=((HT.sIx n n hi:Nat):Int)/\(sliceBounds lo hi none n).2.2=1:=by
 refine⟨?_,?_,rfl⟩
 ·cases lo with
  |none=>simp[sliceBounds,HT.sIx]
  |some i=>
   simp only[sliceBounds,HT.sIx,Option.getD_none,show(1:Int) > 0 by decide,if_true]
   by_cases h:i<0
   ·simp only[h,if_true]<;> omega
   ·simp only[h,if_false]<;> omega
 ·cases hi with
  |none=>simp[sliceBounds,HT.sIx]
  |some i=>
   simp only[sliceBounds,HT.sIx,Option.getD_none,show(1:Int) > 0 by decide,if_true]
   by_cases h:i<0
   ·simp only[h,if_true]<;> omega
   ·simp only[h,if_false]<;> omega
theorem Vd (its:List Value)(lo hi:Option Int):slicePick its.toArray lo hi none=((its.drop (HT.sIx its.length 0 lo)).take (HT.sIx its.length its.length hi-HT.sIx its.length 0 lo)).toArray:=by
 obtain⟨h1,h2,h3⟩:=Uv lo hi its.toArray.size
 unfold slicePick
 rw[h1,h2,h3]
 simp only[sliceRange_one,pick_run,List.size_toArray]<;> rfl
noncomputable def HH (K:PySem.W.Frag):V->Option Int->Option Int->Hp->VK->Prop:=λx lo hi H Q=>∃ a xs,x= .ref a/\SqL K H a xs/\∀p,H p=none->Q (.ref p) (upd H p (.lst (EG xs lo hi)))
theorem EF:SlR X (HH X.K):=by
 intro pins s σ H x v vl vu lo hi sl Q I rx hs pl pu h
 obtain⟨a,xs,rfl,hx,q⟩:=h
 cases rx
 obtain⟨its,r,ht,hz⟩:=I.list hx
 have hlen:=r.length
 refine⟨"list",_,slot_list_getitem.lookup,ht.isList.typeIs,?_⟩
 refine wpAny_getItem_list_slice ht.isList hs pl pu .none (by simp) ?_ (by rw[List.size_toArray]<;> omega)
 rw[Vd, ←hlen]
 refine⟨.ref s.heap.objs.size,_,I.laid (t':=s.toks) (o:=.lst (EG xs lo hi)) (λb ob q=>Heap.get?_push_of_some _ q) (Nat.le_refl _) ?_,rfl,q _ (I.hok.fresh (Nat.le_refl _))⟩
 exact⟨Nat.le_trans (Kk xs lo hi) hz,_,0,(r.drop (HT.sIx xs.length 0 lo)).take (HT.sIx xs.length xs.length hi-HT.sIx xs.length 0 lo),Heap.get?_push_size _ rfl⟩
theorem V4:ZJ X (.builtin "len") (λxs H Q=>∃ p ys,xs=[.ref p]/\(SqL X.K H p ys∨SqT X.K H p ys)/\Q (.int ys.length) H):=by
 intro pins s σ H xs us Q I r h
 obtain⟨p,ys,rfl,hq,q⟩:=h
 obtain⟨u,rfl,rx⟩:=Kb r
 cases rx
 have hn:=Uq
 rcases hq with hq |hq
 ·obtain⟨its,r',pl,hz⟩:=I.list hq
  have hlen:=r'.length
  exact Calls.call_len_list pl.isList (by simp only[List.size_toArray]<;> omega) ⟨.int ys.length,H,I.tok _,⟨s.toks+1,by rw[List.size_toArray,hlen]⟩,q⟩
 ·obtain⟨its,r',pl,hz⟩:=I.tuple hq
  have hlen:=r'.length
  exact len_tuple pl (by simp only[List.size_toArray]<;> omega) ⟨.int ys.length,H,I.tok _,⟨s.toks+1,by rw[List.size_toArray,hlen]⟩,q⟩
theorem UB:ZJ X (.builtin "len") (λxs H Q=>∃ z,xs=[.str z]/\z.length<=sizeLine/\Q (.int z.length) H):=by
 intro pins s σ H xs us Q I r h
 obtain⟨z,rfl,hz,q⟩:=h
 obtain⟨u,rfl,t,rfl⟩:=Kb r
 have hn:=Uq
 exact len_str (by omega) ⟨.int z.length,H,I.tok _,⟨_,rfl⟩,q⟩
theorem ZJ.or {f:Value}{r r':List V->Hp->VK->Prop}(h:ZJ X f r)(h':ZJ X f r'):ZJ X f (λxs H Q=>r xs H Q∨r' xs H Q):=by
 intro pins s σ H xs us Q I rs q
 rcases q with q |q
 ·exact h pins s σ H xs us Q I rs q
 ·exact h' pins s σ H xs us Q I rs q
theorem Uz:ZJ X (.type "list") (λxs H Q=>∃ p ys,xs=[.ref p]/\(SqL X.K H p ys∨SqT X.K H p ys)/\∀l,H l=none->Q (.ref l) (upd H l (.lst ys))):=by
 intro pins s σ H xs us Q I r h
 obtain⟨p,ys,rfl,hq,q⟩:=h
 obtain⟨u,rfl,rx⟩:=Kb r
 cases rx
 have fin:∀(its:List Value),XT ys its->ys.length<=sizeLine->∀(h':Heap) (c':Nat),(∀b o',s.heap.get? b=some o'->h'.get? b=some o')->
   h'.get? s.heap.objs.size=some {cls:=.type "list",dict:=none,data:=.seq its.toArray c',slots:=#[]}->EP X pins σ Q (.ref s.heap.objs.size) {s with heap:=h'}:=λits r' hz h' c' kp e=>
  ⟨.ref s.heap.objs.size,_,I.laid (t':=s.toks) kp (Nat.le_refl _) (show YU X.prog X.w _ h' _ (.lst ys) from⟨hz,its,c',r',e⟩),rfl,q _ (I.hok.fresh (Nat.le_refl _))⟩
 rcases hq with hq |hq
 ·obtain⟨its,r',pl,hz⟩:=I.list hq
  have hlen:=r'.length
  obtain⟨o,ho,hc,n,hd⟩:=pl.isList
  exact call_list_seq p (.inl rfl) ho hc hd (λh' c' kp e=>fin its r' hz h' c' kp e) (by simp only[List.size_toArray]<;> omega)
 ·obtain⟨its,r',pl,hz⟩:=I.tuple hq
  have hlen:=r'.length
  obtain⟨o,ho,hc,n,hd⟩:=pl
  exact call_list_seq p (.inr rfl) ho hc hd (λh' c' kp e=>fin its r' hz h' c' kp e) (by simp only[List.size_toArray]<;> omega)
noncomputable def tyV (K:PySem.W.Frag)(T:String)(x:V)(H:Hp):Prop:=match x with
 | .str _=>T= "str"
 | .int _=>T= "int"
 | .ref p=>(T= "list" /\∃xs,SqL K H p xs)∨(T= "tuple" /\∃o,K.lookup p=some o/\o.cls= .type "tuple" /\o.dict=none)∨
   (T= "dict" /\((∃kvs,H p=some (.dK kvs))∨∃kvs,H p=some (.dT kvs)))∨(T= "set" /\∃S n,H p=some (.set S n))
 |_=>False
theorem Bk {pins:List (Addr×Obj)}{σ:St}{H:Hp}{s:Shared}{T:String}{x:V}{v:Value}(I:Inv X pins σ H s)(r:X8 x v)(ty:tyV X.K T x H):
  s.TypeIs v T/\∀a,v= .ref a->∃ob,s.heap.get? a=some ob/\ob.dict=none:=by
 cases x with
 |str z=>
  obtain⟨t,rfl⟩:=r
  cases(show T= "str" from ty)
  exact⟨typeIs_str s z t,λ_ e=>nomatch e⟩
 |int i=>
  obtain⟨t,rfl⟩:=r
  cases(show T= "int" from ty)
  exact⟨typeIs_int s i t,λ_ e=>nomatch e⟩
 |ref p=>
  cases r
  rcases ty with⟨rfl,xs,hq⟩ | ⟨rfl,o,hk,hc,hd⟩ | ⟨rfl,hk⟩ | ⟨rfl,S,n,hk⟩
  ·obtain⟨its,_,pl,_⟩:=I.list hq
   refine⟨pl.isList.typeIs,λa e=>?_⟩
   cases e
   obtain⟨o,n,e,c,hd,_⟩:=pl
   exact⟨o,e,hd⟩
  ·refine⟨⟨o,I.kIn p o hk,hc⟩,λa e=>?_⟩
   cases e
   exact⟨o,I.kIn _ o hk,hd⟩
  ·have z:∃o,s.heap.get? p=some o/\o.ExactDict:=by
    rcases hk with⟨kvs,hk⟩ | ⟨kvs,hk⟩
    ·obtain⟨_,_,_,_,o,_,_,e,ex,_⟩:=I.hok p _ hk
     exact⟨o,e,ex⟩
    ·obtain⟨_,_,_,_,o,_,_,e,ex,_⟩:=I.hok p _ hk
     exact⟨o,e,ex⟩
   obtain⟨o,e,ex⟩:=z
   refine⟨⟨o,e,ex.1⟩,λa e2=>?_⟩
   cases e2
   exact⟨o,e,ex.2.1⟩
  ·obtain⟨o,_,_,_,e,ex,_⟩:=I.hok p _ hk
   refine⟨⟨o,e,ex.1⟩,λa e2=>?_⟩
   cases e2
   exact⟨o,e,ex.2.1⟩
 |_=>exact False.elim ty
noncomputable def Ip (K:PySem.W.Frag)(T:String)(r:V->List V->Hp->VK->Prop)(to:TE):TE:=λσ H Q=>to σ H λx H1=>tyV K T x H1/\r x [] H1 Q
noncomputable def tBM (K:PySem.W.Frag)(T:String)(r:V->List V->Hp->VK->Prop)(to:TE)(t:TA):TE:=λσ H Q=>to σ H λx H1=>tyV K T x H1/\t σ H1 λxs H2=>r x xs H2 Q
variable {o e:Expr}{es:List Expr}{to:TE}{t:TA}{name:Str}{apos cpos:Pos}{T id:String}{r:V->List V->Hp->VK->Prop}
theorem Ba (pa:PlainAttrs T)(slot:Slot T name id)(hty:typeOf (.builtin id)=pure (.type "method_descriptor"))(hm:MtR X id r)(ho:PE X o to)
  (hbase:attributeBase o name X.env (eval o X.env)=eval o X.env:=by rfl)(hline:(apos.endLine==cpos.line)=true:=by rfl):PE X (.Call (.Attribute o name apos) [] [] cpos) (Ip X.K T r to):=by
 intro pins s σ H Q I h
 refine wpAny_Call_method0_late hbase hline (thn (ho pins s σ H _ I h) λv s1 r9=>?_)
 obtain⟨x,H1,I1,r1,ty,q1⟩:=r9
 obtain⟨h1,h2⟩:=Bk I1 r1 ty
 exact⟨T,id,pa,slot,hty,h1,h2,Calls.callWith_builtin rfl (PySem.evalArgs_none (hm pins s1 σ H1 x [] v [] Q I1 r1 .nil q1))⟩
theorem Z9 (pa:PlainAttrs T)(slot:Slot T name id)(hty:typeOf (.builtin id)=pure (.type "method_descriptor"))(hm:MtR X id r)(ho:PE X o to)(ha:PA X (e::es) t)
  (hbase:attributeBase o name X.env (eval o X.env)=eval o X.env:=by rfl)
  (hfew:((backTo cpos (starEach (e::es) X.env)).all (λx=>!x.1)&&(backToKw cpos (keywordEach [] X.env)).all (λx=>x.1.isSome)
   &&decide ((e::es).length+([]:List Keyword).length+(if([]:List Keyword).isEmpty then 0 else 1)<30))=true:=by rfl)
  (hline:(apos.endLine==cpos.line)=true:=by rfl)(hs:starEach (e::es) X.env=(false,eval e X.env)::starEach es X.env:=by rfl)(hplain:(backTo cpos (starEach es X.env)).any (·.1)=false:=by rfl):
  PE X (.Call (.Attribute o name apos) (e::es) [] cpos) (tBM X.K T r to t):=by
 intro pins s σ H Q I h
 refine wpAny_Call_method_late hbase hfew hline rfl (thn (ho pins s σ H _ I h) λv s1 r9=>?_)
 obtain⟨x,H1,I1,r1,ty,q1⟩:=r9
 obtain⟨h1,h2⟩:=Bk I1 r1 ty
 refine⟨T,id,pa,slot,hty,h1,h2,?_⟩
 have hA:=ha cpos pins s1 σ H1 _ I1 q1
 rw[hs] at hA⊢
 refine Calls.callWith_builtin (by show(false || (backTo cpos (starEach es X.env)).any (·.1))=false;rw[hplain]<;> rfl) (Calls.evalArgs_plain ?_)
 exact thn hA λus s2 r9=>by obtain⟨vs,H2,I2,r2,q2⟩:=r9;exact hm pins s2 σ H2 x vs v us Q I2 r1 r2 q2
/- xs.append(e), list.index on a module's tuple .. are MtR facts of 06m -/
end
noncomputable def MtM (X:Cx)(id:String)(r:V->List V->Hp->VK->Prop):Prop:=
 ∀(pins:List (Addr×Obj)) (s:Shared) (σ:St) (H:Hp) (x:V) (xs:List V) (v:Value) (us:List Value) (Q:VK),Inv X pins σ H s->X8 x v->XT xs us->r x xs H Q->
  wpAny (model X.prog X.w) X.A (call (.builtin id) (v::us)) (EP X pins σ Q) X.xe s
theorem XT.one:∀{x:V}{us:List Value},XT [x] us->∃u,us=[u]/\X8 x u:=fun {x us} h=>by
 cases h with
 |cons r t=>
  cases t
  exact⟨_,rfl,r⟩
theorem XT.two:∀{x y:V}{us:List Value},XT [x,y] us->∃u v,us=[u,v]/\X8 x u/\X8 y v:=fun {x y us} h=>by
 cases h with
 |cons r t=>
  cases t with
  |cons q t=>
   cases t
   exact⟨_,_,rfl,r,q⟩
theorem XT.zero:∀{us:List Value},XT [] us->us=[]
 |_, .nil=>rfl
theorem XT.dropLast {xs:List V}{us:List Value}(h:XT xs us):XT xs.dropLast us.dropLast:=by
 induction h with
 |nil=>exact .nil
 |cons r t ih=>
  cases t with
  |nil=>exact .nil
  |cons q t'=>exact .cons r ih
theorem XT.eraseIdx:∀{xs:List V}{us:List Value} (i:Nat),XT xs us->XT (xs.eraseIdx i) (us.eraseIdx i)
 |_,_,_, .nil=>.nil
 |_,_,0, .cons _ t=>t
 |_,_,i+1, .cons r t=>.cons r (XT.eraseIdx i t)
theorem XT.reverse {xs:List V}{us:List Value}(h:XT xs us):XT xs.reverse us.reverse:=by
 induction h with
 |nil=>exact .nil
 |cons r t ih=>rw[List.reverse_cons,List.reverse_cons];exact XT.append ih (.cons r .nil)
theorem XT.rep {xs:List V}{us:List Value}(h:XT xs us):∀k:Nat,XT (List.replicate k xs).flatten (List.replicate k us).flatten
 |0=>.nil
 |k+1=>by
  rw[List.replicate_succ,List.replicate_succ,List.flatten_cons,List.flatten_cons]
  exact XT.append h (XT.rep h k)
theorem Gq {α:Type}(l:List α):l.eraseIdx (l.length-1)=l.dropLast:=by
 induction l with
 |nil=>rfl
 |cons a r ih=>
  cases r with
  |nil=>rfl
  |cons b r=>
   have e:(a::b::r).length-1=((b::r).length-1)+1:=by
    have h1:(a::b::r).length=r.length+2:=rfl
    have h2:(b::r).length=r.length+1:=rfl
    omega
   rw[e,List.eraseIdx_cons_succ,ih]
   all_goals rfl
theorem Uh {α:Type}:∀(l:List α) (i:Nat),(l.eraseIdx i).length<=l.length
 | [],_=>Nat.le_refl _
 |_::_,0=>Nat.le_succ _
 |_::r,i+1=>Nat.succ_le_succ (Uh r i)
theorem Ue (its:List Value):∀(k:Nat) (acc:List Value),
  List.foldl (λx1 x2=>x1++x2) acc.toArray (List.replicate k its.toArray)=(acc++(List.replicate k its).flatten).toArray
 |0,acc=>by simp
 |k+1,acc=>by
  have e:acc.toArray++its.toArray=(acc++its).toArray:=by simp
  have e2:(acc++its)++(List.replicate k its).flatten=acc++(List.replicate (k+1) its).flatten:=by
   rw[List.replicate_succ,List.flatten_cons,List.append_assoc]
  rw[←e2, ←Ue its k (acc++its), ←e,List.replicate_succ,List.foldl_cons]
section
variable {X:Cx}{pins:List (Addr×Obj)}{σ:St}{H:Hp}{s:Shared}{l b:Addr}{xs ys zs:List V}
theorem Inv.lset {its its':List Value}{n:Nat}{f:Array Value->Array Value}{t':Nat}(I:Inv X pins σ H s)(hH:H l=some (.lst xs))
  (e:s.heap.get? l=some {cls:=.type "list",data:=.seq its.toArray n})(hf:f its.toArray=its'.toArray)(hv:XT ys its')(hz:ys.length<=sizeLine):
  Inv X pins σ (upd H l (.lst ys)) {s with heap:=s.heap.update l (Obj.mapSeq f),toks:=t'}:=by
 have q:=PySem.IsL.update e f
 rw[hf] at q
 refine I.write (x:=l) (e:=l) (by rw[hH];exact trivial) (.inl rfl) (λb' u hb hu=>(Heap.get?_update_other s.heap (Obj.mapSeq f) (Ne.symm hb)).trans hu) ⟨_,q⟩ ?_
 exact⟨hz,its',_,hv,q⟩
theorem Inv.lnew {its:List Value}{t':Nat}(I:Inv X pins σ H s)(hv:XT ys its)(hz:ys.length<=sizeLine):
  Inv X pins σ (upd H s.heap.objs.size (.lst ys)) {s with heap:=s.heap.push {cls:=.type "list",data:=.seq its.toArray},toks:=t'}:=
 I.laid (λ_ _ q=>Heap.get?_push_of_some _ q) (Nat.le_refl _) ⟨hz,its,0,hv,Heap.get?_push_size _ rfl⟩
theorem Inv.fresh (I:Inv X pins σ H s):H s.heap.objs.size=none:=I.hok.fresh (Nat.le_refl _)
theorem Inv.lstM (I:Inv X pins σ H s)(hH:H l=some (.lst xs)):xs.length<=sizeLine/\∃(its:List Value) (n:Nat),XT xs its/\xs.length=its.length/\s.heap.get? l=some {cls:=.type "list",data:=.seq its.toArray n}:=by
 obtain⟨z,its,n,r,e⟩:=I.hok l _ hH
 exact⟨z,its,n,r,r.length,e⟩
theorem Cd {n:Nat}(h:n<=sizeLine):Builtin.List.listTooLong n=false:=by
 unfold Builtin.List.listTooLong
 exact decide_eq_false (by omega)
end
section
variable {X:Cx}
noncomputable def Z4:V->List V->Hp->VK->Prop:=λx vs H Q=>∃ l xs y,x= .ref l/\vs=[y]/\H l=some (.lst xs)/\xs.length<sizeLine/\Q .non (upd H l (.lst (xs++[y])))
theorem XZ:MtM X "list.append" Z4:=by
 intro pins s σ H x vs v us Q I rx rv h
 obtain⟨l,xs,y,rfl,rfl,hH,hz,q⟩:=h
 cases rx
 obtain⟨u,rfl,ru⟩:=rv.one
 obtain⟨z,its,n,r,hl,e⟩:=I.lstM hH
 refine call_meets F.slot_list_append ⟨_,e,rfl⟩ F.entry_list_append (F.args_list_append_2 _ _) (PySem.list_append l its.toArray n u (by rw[List.size_toArray];omega)) ⟨e,?_⟩
 refine⟨.non,_,I.lset (its':=its++[u]) hH e (by simp) (r.append (.cons ru .nil)) ?_,rfl,q⟩
 rw[List.length_append,List.length_singleton]
 omega
noncomputable def IF:V->List V->Hp->VK->Prop:=λx vs H Q=>∃ l xs y,x= .ref l/\vs=[]/\H l=some (.lst xs)/\xs[xs.length-1]?=some y/\Q y (upd H l (.lst xs.dropLast))
theorem EM:MtM X "list.pop" IF:=by
 intro pins s σ H x vs v us Q I rx rv h
 obtain⟨l,xs,y,rfl,rfl,hH,hy,q⟩:=h
 cases rx
 have hus:=rv.zero
 subst hus
 obtain⟨z,its,n,r,hl,e⟩:=I.lstM hH
 obtain⟨u,hu,ru⟩:=r.get hy
 have hy':its.toArray[its.toArray.size-1]?=some u:=by
  show its.toArray[its.length-1]?=some u
  rw[←Array.getElem?_toList, ←hl]
  exact hu
 refine call_meets F.slot_list_pop ⟨_,e,rfl⟩ F.entry_list_pop (F.args_list_pop_1 _) (MeetsSeq.list_pop_last l its.toArray n u hy' (by rw[List.size_toArray];omega)) ⟨e,?_⟩
 refine⟨y,_,I.lset (its':=its.dropLast) hH e ?_ r.dropLast ?_,ru,q⟩
 ·show its.toArray.eraseIdxIfInBounds (its.toArray.size-1)=its.dropLast.toArray
  rw[List.size_toArray,List.eraseIdxIfInBounds_toArray,Gq]
 ·rw[List.length_dropLast]
  omega
noncomputable def Dc:V->List V->Hp->VK->Prop:=λx vs H Q=>∃ l xs i k y,x= .ref l/\vs=[.int i]/\H l=some (.lst xs)/\ -(2^63)<=i/\i<2^63/\seqIndex? i xs.length=some k/\xs[k]?=some y/\Q y (upd H l (.lst (xs.eraseIdx k)))
theorem Cl:MtM X "list.pop" Dc:=by
 intro pins s σ H x vs v us Q I rx rv h
 obtain⟨l,xs,i,k,y,rfl,rfl,hH,h1,h2,hk,hy,q⟩:=h
 cases rx
 obtain⟨u,rfl,ru⟩:=rv.one
 obtain⟨t,rfl⟩:=ru
 obtain⟨z,its,n,r,hl,e⟩:=I.lstM hH
 obtain⟨w,hw,rw'⟩:=r.get hy
 refine call_meets F.slot_list_pop ⟨_,e,rfl⟩ F.entry_list_pop (F.args_list_pop_2 _ _)
  (MeetsSeq.list_pop_at l its.toArray n i t k w (fitsIndex_both h1 h2) (by rw[List.size_toArray, ←hl];exact hk) (by rw[←Array.getElem?_toList];exact hw) (by rw[List.size_toArray];omega)) ⟨e,?_⟩
 refine⟨y,_,I.lset (its':=its.eraseIdx k) hH e ?_ (r.eraseIdx k) ?_,rw',q⟩
 ·show its.toArray.eraseIdxIfInBounds k=(its.eraseIdx k).toArray
  rw[List.eraseIdxIfInBounds_toArray]
 ·have:=Uh xs k
  omega
noncomputable def II:R2:=λx y H Q=>∃ l b xs zs,x= .ref l/\y= .ref b/\H l=some (.lst xs)/\H b=some (.lst zs)/\xs.length+zs.length<=sizeLine/\∀p,H p=none->Q (.ref p) (upd H p (.lst (xs++zs)))
theorem Kw:OpR X (binaryOp .Add) II:=by
 intro pins s σ H x y v u Q I rx ry h
 obtain⟨l,b,xs,zs,rfl,rfl,hH,hB,hz,q⟩:=h
 cases rx
 cases ry
 obtain⟨z,its,n,r,hl,e⟩:=I.lstM hH
 obtain⟨z2,its2,n2,r2,hl2,e2⟩:=I.lstM hB
 refine PySem.P.add_list e e2 ?_ (by rw[List.size_toArray,List.size_toArray];omega)
 have ea:its.toArray++its2.toArray=(its++its2).toArray:=by simp
 rw[ea]
 exact⟨.ref _,_,I.lnew (t':=s.toks) (r.append r2) (by rw[List.length_append];omega),rfl,q _ I.fresh⟩
noncomputable def IA:R2:=λx y H Q=>∃ l k xs,x= .ref l/\y= .int k/\H l=some (.lst xs)/\ -(2^63)<=k/\k<2^63/\xs.length*k.toNat<=sizeLine/\
 ∀p,H p=none->Q (.ref p) (upd H p (.lst (List.replicate k.toNat xs).flatten))
theorem Ew {α:Type}(xs:List α)(k:Nat):(List.replicate k xs).flatten.length=k*xs.length:=by
 induction k with
 |zero=>simp
 |succ k ih=>rw[List.replicate_succ,List.flatten_cons,List.length_append,ih,Nat.succ_mul,Nat.add_comm]
theorem DJ:OpR X (binaryOp .Mult) IA:=by
 intro pins s σ H x y v u Q I rx ry h
 obtain⟨l,k,xs,rfl,rfl,hH,h1,h2,hz,q⟩:=h
 cases rx
 obtain⟨t,rfl⟩:=ry
 obtain⟨z,its,n,r,hl,e⟩:=I.lstM hH
 have hlen:its.toArray.size*k.toNat<=sizeLine:=by rw[List.size_toArray, ←hl];exact hz
 have hcap:¬its.toArray.size*k.toNat > (2^63-1)/8:=by
  have:(sizeLine:Nat)<=(2^63-1)/8:=by decide
  omega
 have hfit:¬(!Builtin.List.listFitsIndex k)=true:=by
  rw[fitsIndex_both h1 h2]
  exact Bool.false_ne_true
 have hlong:¬Builtin.List.listTooLong (its.toArray.size*k.toNat)=true:=by
  rw[Cd hlen]
  exact Bool.false_ne_true
 have hnew:List.foldl (λx1 x2=>x1++x2) #[] (List.replicate (if its.toArray.isEmpty=true then 0 else k.toNat) its.toArray)=(List.replicate k.toNat its).flatten.toArray:=by
  have f0:∀m:Nat,List.foldl (λx1 x2=>x1++x2) #[] (List.replicate m its.toArray)=(List.replicate m its).flatten.toArray:=λm=>by
   have:=Ue its m []
   rw[List.nil_append] at this
   exact this
  rw[f0]
  cases its with
  |nil=>simp
  |cons a r'=>rw[if_neg (by simp)]
 refine wpAny_binaryOp_repeat_ref (T:="list") (U:="int") (by decide) ⟨_,e,rfl⟩ (λs'=>typeIs_int s' k t) noFill_list_mul F.fills_int_mul F.slot_int_rmul repeat_list F.slot_int_index.lookup
  (call_meets F.slot_int_rmul (typeIs_int s k t) F.entry_int_rmul (F.args_int_rmul_2 _ _) (int___rmul___int_list k t l its.toArray n)
   ⟨e,rfl,⟨_,e,rfl⟩,call_meets F.slot_list_mul ⟨_,e,rfl⟩ F.entry_list_mul (F.args_list_mul_2 _ _) (AutoListH.list___mul___list_int_3 l its.toArray n k t hfit hcap hlong) ⟨e,?_⟩⟩)
 rw[hnew]
 exact⟨.ref _,_,I.lnew (t':=s.toks) (r.rep k.toNat) (by rw[Ew,Nat.mul_comm];exact hz),rfl,q _ I.fresh⟩
end
section
variable {prog:Program}{w:World}{A:Around}{E:Value->Shared->Prop}{s:Shared}
end
section
variable {X:Cx}
end
end L2
namespace Att
open PySem PySem.W PySem.Calls PyProof.Rows
theorem Q3 {P:Params}{h:Heap}:∀(ns:List Int) (vs:List Value),WellAll P h vs (ns.map WData.int)->IntsAre vs ns:=by
 intro ns
 induction ns with
 |nil=>
  intro vs w
  rw[List.map_nil] at w
  cases w
  exact .nil
 |cons n ns ih=>
  intro vs w
  rw[List.map_cons] at w
  cases w with
  |cons a b=>
   cases a
   exact .cons _ _ (ih _ b)
theorem DL {l:OpenLaw}{n:Nat}(hn:l.most=some n){P:Params}{h:Heap}{args:List WData}{vals:List Value}
  (hpre:l.row.toRowW.claim.pre args=true)(hwl:WellAll P h vals args):
  ∃a vs ns,vals=[Value.ref a]/\args=[WData.list (ns.map WData.int)]/\h.get? a=some {cls:=.type "list",data:=.seq vs.toArray}/\IntsAre vs ns/\ns.length<=n:=by
 have hsh:WShape.hasAll [] args [.list .int]=true:=(pre_splitW hpre).1
 have hc:l.pre.holds [] {args:=args}=true:=(pre_splitW hpre).2
 obtain⟨d,r,rfl,h1,h2⟩:=hasAllW_cons hsh
 obtain rfl:=hasAllW_nil h2
 obtain⟨xs,rfl,h3⟩:=hasW_list h1
 obtain⟨ns,rfl⟩:=items_int h3
 have hlen:ns.length<=n:=by
  unfold OpenLaw.pre at hc
  have h4:(WTm.not (.lt (.lit (.int (n:Int))) (.len (.arg 0)))).holds [] {args:=[.list (ns.map .int)]}=true:=by
   have h4:=(holds_andW hc).1
   rw[hn] at h4
   exact h4
  have h5:=condW_of h4 (w_not (w_lt w_lit (w_len_list (w_arg rfl))))
  rw[List.length_map] at h5
  refine Nat.le_of_not_lt λq=>?_
  have q':(n:Int)<((ns.length:Nat):Int):=by omega
  first
   | (rw[decide_eq_true q'] at h5;exact absurd h5 (by decide))
   | (simp at h5;omega)
 cases hwl with
 |cons w1 w2=>
  cases w2
  cases w1 with
  |list ho hall=>exact⟨_,_,ns,rfl,rfl,ho,Q3 ns _ hall,hlen⟩
theorem Dw (l:OpenLaw)(args:List WData):l.row.toRowW.claim.post args (.bool true) args=true:=
 postW_of (r:=l.row.toRowW) (X:=(true==true))
  (show WShape.has [] (.bool true) .bool=true by first |rfl |decide |simp[WShape.has,WShape.arms,WShape.armsAll])
  (show(WTm.eq .res (.lit (.bool true))).value [] {args:=args,res:=some (.bool true),after:=args}=some (.bool (true==true)) from w_eq_bool (w_res rfl) w_lit) rfl
theorem attach_call {l:OpenLaw}{n:Nat}{q:Program}{loose:List Str}{XP:(Str->Option Value)->Heap->Prop}{YP:World->Heap->Prop}{d:DefRec}
  (hn:l.most=some n)(hdf:d.params.defaults=[])
  (call:∀(w:World) (s₀ s₁:Shared) (mg mb:Str->Option Value) (fa:Addr) (o:Obj) (pm cd doc:Value) (a:Addr) (vs:List Value) (ns:List Int),
   Ground q loose [] XP w s₀ mg mb s₁.heap->YP w s₁.heap->
   s₁.heap.get? fa=some o->o.data= .func (docDef d.name d.params d.body d.scope pm cd doc)->s₁.heap.CodeRec cd d.name->mg d.name=some (.ref fa)->
   s₁.heap.get? a=some {cls:=.type "list",data:=.seq vs.toArray}->IntsAre vs ns->ns.length<=n->s₁.gens= #[]->
   codeAny (model l.prog w) callerA (.call (.ref fa) ⟨[.ref a],[]⟩) (λr s'=>r= .ok (.ret (.bool true))/\OldK s₁.heap s'.heap/\s'.os=s₁.os/\AllBare s'.gens) s₁):
  WalkO q loose XP YP l.row.toRowW d [] (λf vs=>PySem.call f vs):=by
 intro w s₀ s₁ mg mb G Y fa o pm cd doc dV kV ho hd hcd hD hmg hg args vals as hpre hlay hrd hwl hlo
 obtain rfl:dV= .none:=Dflts.none hD hdf
 obtain rfl:kV= .none:=Dflts.noKw hD
 obtain⟨a,vs,ns,rfl,rfl,hobj,hints,hlen⟩:=DL hn hpre hwl
 refine enter_call (codeAny_mono (call w s₀ s₁ mg mb fa o pm cd doc a vs ns G Y ho (fd_plain hd) hcd hmg hobj hints hlen hg) λr s' hq=>?_)
 obtain⟨rfl,h2,h3,h4⟩:=hq
 exact⟨.inl ⟨.bool true, .bool true,[],rfl,λ_=>rfl, .bool true,Dw l _,λ_=>⟨List.Pairwise.nil,λ_ hm=>(nomatch hm)⟩⟩,h2,h3,h4⟩
section
variable {prog:Program}{w:World}{A:Around}{E:Value->Shared->Prop}{s:Shared}{K:Frag}
noncomputable def Iu (h:Heap)(L d:Addr):List (Addr×Obj):=(List.range h.objs.size).filterMap λa=>if a=L∨a=d then none else(h.get? a).map λo=>(a,o)
end
end Att
namespace L2
open PySem PySem.Spec PyProof.Rows
theorem Fy:∀{vs:List Value}{ns:List Int},IntsAre vs ns->XT (ns.map V.int) vs:=λp=>by
 induction p with
 |nil=>exact .nil
 |cons n t _ ih=>exact .cons ⟨t,rfl⟩ ih
noncomputable def Im (H:Hp):Prop:=∀ b,H b=none∨∃o xs,H b=some (.frz o (.lst xs))
theorem DW {P:Program}{w:World}{K:PySem.W.Frag}{mg mb:Str->Option Value}{CX:CXT}{k:Nat}{fa a:Addr}{fd:FuncData}{x:Str}{sp:Sp}{s₁:Shared}{vs:List Value}{ns:List Int}
  (KX:K.In s₁.heap)(hns:s₁.heap.Ns mainGlobals mg)(hb:s₁.heap.Ns builtinsNs mb)(hbb:∀x:Str,x≠ "__name__" ->mb x=bootBuiltins x)(hlim:s₁.heap.NoLimit)(hg:s₁.gens= #[])
  (ha:s₁.heap.get? a=some {cls:=.type "list",data:=.seq vs.toArray})(hi:IntsAre vs ns)(hl:ns.length<=sizeLine)(hr:Room k callerA)
  (F:∀base:Heap,K.In base->base.Ns mainGlobals mg->FnOk P w K mg base CX k fa fd [x] sp)(hbind:∀(s:Shared) (u:Value),BindsTo s fd ⟨[u],[]⟩ [(x,u)])
  (hsp:∀H:Hp,Im H->SqL K H a (ns.map V.int)->sp [.ref a] H (λv _=>v= .bl true) λ_ _ _=>False)
  (hCX:∀H e s',CX [] H s₁ (λ_ _ _=>False) e s'->False):
  codeAny (model P w) callerA (.call (.ref fa) ⟨[.ref a],[]⟩) (λr s'=>r= .ok (.ret (.bool true))/\OldK s₁.heap s'.heap/\s'.os=s₁.os/\AllBare s'.gens) s₁:=by
 have rv:=Fy hi
 have lenV:=hi.length
 -- from an abstract heap in which nothing but the script may be tracked
 have core:∀H:Hp,Im H->SqL K H a (ns.map V.int)->HOk P w H s₁.heap->(∀b,H b≠none->b=a)->(H a≠none->K.lookup a=none)->
   codeAny (model P w) callerA (.call (.ref fa) ⟨[.ref a],[]⟩) (λr s'=>r= .ok (.ret (.bool true))/\OldK s₁.heap s'.heap/\s'.os=s₁.os/\AllBare s'.gens) s₁:=by
  intro H hO hS hok hA hK
  have base_of:∀{b:Addr}{o:Obj},s₁.heap.get? b=some o->H b=none->(DO s₁.heap H).get? b=some o:=λe n=>K1 e n
  have noA:∀{b:Addr}{o:Obj}{es:Array DictEntry}{ep:Nat},s₁.heap.get? b=some o->o.data= .dict es ep->H b=none:=fun {b o es ep} e d=>by
   cases q:H b with
   |none=>rfl
   |some u=>
    have e':b=a:=hA b (by rw[q];simp)
    subst e'
    rw[ha] at e;cases e
    have d':Data.seq vs.toArray _=Data.dict es ep:=d
    cases d'
  have nsK:∀{b:Addr}{m:Str->Option Value},s₁.heap.Ns b m->(DO s₁.heap H).Ns b m:=fun {b m} ⟨o,es,ep,e,d,r⟩=>⟨o,es,ep,base_of e (noA e d),d,r⟩
  have hKb:K.In (DO s₁.heap H):=λb o e=>base_of (KX b o e) (by
   cases q:H b with
   |none=>rfl
   |some u=>
    have e':b=a:=hA b (by rw[q];simp)
    subst e'
    rw[hK (by rw[q];simp)] at e;cases e)
  have hM:Mod K mg (DO s₁.heap H):=⟨hKb,nsK hns,⟨mb,nsK hb,hbb⟩,let ⟨mc,h1,h2⟩:=hlim;⟨mc,nsK h1,h2⟩⟩
  have e0:Env0 P w K mg (DO s₁.heap H) callerA [] s₁ H:=⟨rfl,hM,λb o e=>Dz e,Nat.le_of_eq (GY _ _),trivial,λb hb=>absurd (show b∈([]:List Addr) from hb) (by simp),hok, .of_eq hg⟩
  refine codeAny_mono ((F _ hKb (nsK hns)).run callerA [] s₁ H ⟨[.ref a],[]⟩ [.ref a] [.ref a] _ _ hr e0 (hbind s₁ (.ref a)) (.cons rfl .nil) (hsp H hO hS)) λr s' h=>?_
  cases r with
  |error e=>exact(hCX H e s' h).elim
  |ok fl=>
   cases fl with
   |next=>exact False.elim h
   |brk=>exact False.elim h
   |cont=>exact False.elim h
   |ret u=>
    obtain⟨v,H',os,bare,un,hok',r',q⟩:=h
    have q':v= .bl true:=q
    subst q'
    obtain rfl:u=Value.bool true:=r'
    refine⟨rfl,OldK.of_keep λb o e=>?_,os,bare⟩
    cases q:H b with
    |none=>exact un.keep b o e q (by intro z;exact absurd (show b∈([]:List Addr) from z) (by simp)) (by simp)
    |some u=>
     rcases hO b with z | ⟨ob,xs,z⟩
     ·rw[q] at z;cases z
     ·have z2:=un.frzs b ob _ z
      obtain⟨e1,_⟩:=hok b _ z
      obtain⟨e2,_⟩:=hok' b _ z2
      rw[e] at e1;cases e1
      exact e2
 cases hk:K.lookup a with
 |some o=>
  -- the script is one of the module's own objects
  have e:=KX a o hk
  rw[ha] at e
  cases e
  refine core (λ_=>none) (λ_=>.inl rfl) (.inr ⟨_,vs.toArray,_,hk,rfl,rfl,rfl,by rw[List.size_toArray,lenV];exact hl,by simpa using rv⟩) (λb u z=>by have z':(none:Option HO)=some u:=z;cases z') (λb z=>absurd rfl z) λz=>absurd rfl z
 |none=>
  refine core (λb=>if b=a then some (.frz {cls:=.type "list",data:=.seq vs.toArray} (.lst (ns.map V.int))) else none) (λb=>?_) (.inl (.inr ⟨{cls:=.type "list",data:=.seq vs.toArray},if_pos rfl⟩)) (λb u z=>?_) (λb z=>?_) λ_=>hk
  ·by_cases hb:b=a
   ·exact .inr ⟨_,_,if_pos hb⟩
   ·exact .inl (if_neg hb)
  ·by_cases hb:b=a
   ·have z':=(if_pos hb).symm.trans z
    cases z'
    subst hb
    exact⟨ha,by rw[List.length_map];exact hl,vs,_,rv,ha⟩
   ·have z':=(if_neg hb).symm.trans z
    cases z'
  ·by_cases hb:b=a
   ·exact hb
   ·exact absurd (if_neg hb) z
theorem BG {l:PySem.W.OpenLaw}{n k:Nat}{q:Program}{loose:List Str}{XP:(Str->Option Value)->Heap->Prop}{YP:World->Heap->Prop}{d:DefRec}{K:Params->PySem.W.Frag}{CX:World->CXT}{sp:World->Sp}{x:Str}
  (hn:l.most=some n)(hn2:n<=sizeLine)(hdf:d.params.defaults=[])(hr:Room k callerA)
  (hY:∀(w:World) (h:Heap),YP w h->(K w.params).In h)
  (F:∀(w:World) (mg:Str->Option Value) (fa:Addr) (h:Heap),(K w.params).In h->h.Ns mainGlobals mg->mg d.name=some (.ref fa)->
   ∃fd:FuncData,(∀(s:Shared) (u:Value),BindsTo s fd ⟨[u],[]⟩ [(x,u)])/\
    ∀base:Heap,(K w.params).In base->base.Ns mainGlobals mg->FnOk l.prog w (K w.params) mg base (CX w) k fa fd [x] (sp w))
  (hsp:∀(w:World) (H:Hp) (a:Addr) (ns:List Int),ns.length<=n->Im H->SqL (K w.params) H a (ns.map V.int)->sp w [.ref a] H (λv _=>v= .bl true) λ_ _ _=>False)
  (hCX:∀(w:World) (H:Hp) (s:Shared) (e:Value) (s':Shared),CX w [] H s (λ_ _ _=>False) e s'->False):
  PySem.W.WalkO q loose XP YP l.row.toRowW d [] (λf vs=>PySem.call f vs):=by
 refine Att.attach_call hn hdf λw s₀ s₁ mg mb fa o pm cd doc a vs ns G Y ho hd hcd hmg hobj hints hlen hg=>?_
 have KX:=hY w _ Y
 obtain⟨fd,hb,hF⟩:=F w mg fa _ KX G.T.g hmg
 exact DW KX G.T.g G.T.b G.T.builtins G.T.nolimit hg hobj hints (Nat.le_trans hlen hn2) hr hF hb (λH hO hS=>hsp w H a ns hlen hO hS) λH e s'=>hCX w H s₁ e s'
noncomputable def Yx (s:Stmt):Arguments:=match s with
 | .FunctionDef _ a _ _ _ _ _ _ _ _=>a
 |_=>{posonlyargs:=[],args:=[],vararg:=none,kwonlyargs:=[],kw_defaults:=[],kwarg:=none,defaults:=[]}
noncomputable def Yi (s:Stmt):List Stmt:=match s with
 | .FunctionDef _ _ b _ _ _ _ _ _ _=>b
 |_=>[]
noncomputable def Xi (s:Stmt):Scope:=match s with
 | .FunctionDef _ _ _ _ _ _ sc _ _ _=>sc
 |_=>{kind:=.function,names:=[],isGenerator:=false,isCoroutine:=false}
noncomputable abbrev CX0:CXT:=λ_ _ _ _ _ _=>False
noncomputable abbrev E0:XK:=λ_ _ _=>False
theorem HU {X:Cx}:QF CX0 X E0:=λ_ _ _ _ _ _ _ h=>h.elim
structure Fun (K:PySem.W.Frag)(x qual:Str)(st:Stmt)(f:Addr)(fd:FuncData):Prop where
 ex:∃(oc:Value) (od:Option Addr) (kV doc pm:Value) (an:Option Addr) (cdv ct:Value) (osl:Array (Option Value)),
  fd=PySem.W.fnOf x qual (Yx st) (Yi st) (Xi st) .none kV doc pm an cdv ct/\K.lookup f=some ⟨oc,od, .func fd,osl⟩/\PySem.W.codeIn K cdv qual=true
 kp:PySem.W.keepIn K (.ref f)=true
section
variable {P:Program}{w:World}{K:PySem.W.Frag}{mg:Str->Option Value}{base:Heap}
theorem Fun.ok {x qual:Str}{st:Stmt}{f:Addr}{fd:FuncData}{N ps:List Str}{k:Nat}{sp:Sp}(F:Fun K x qual st f fd)(S:FnScope N ps (Xi st))(len:∀vs H Q E,sp vs H Q E->vs.length=ps.length)
  (hbody:∀(cdv:Value) (A:Around) (outer:List Env) (s:Shared) (H:Hp) (vs:List V) (Q:VK) (E:XK),Room k (A.deeper (envOfC qual (Xi st) s.heap.objs.size f cdv))->sp vs H Q E->
   ∃t,PSs (KS CX0 P w K mg base N qual (Xi st) f cdv A outer s H E).nox (Yi st) t/\t {nx:=λ_ H'=>Q .non H',rt:=Q} (JG N vs) H):FnOk P w K mg base CX0 (k+1) f fd ps sp:=by
 obtain⟨oc,od,kV,doc,pm,an,cdv,ct,osl,rfl,lk,hcd⟩:=F.ex
 refine Hg lk hcd S len λA outer s H vs Q E hr hsp=>?_
 obtain⟨t,h,q⟩:=hbody cdv A outer s H vs Q E hr hsp
 exact⟨t,h.nox,q⟩
theorem Fun.binds {x qual:Str}{st:Stmt}{f:Addr}{fd:FuncData}{ps:List Str}(F:Fun K x qual st f fd)
  (h:∀(kV doc pm:Value) (an:Option Addr) (cdv ct:Value) (us:List Value),us.length=ps.length->bindArgs (PySem.W.fnOf x qual (Yx st) (Yi st) (Xi st) .none kV doc pm an cdv ct) ⟨us,[]⟩=pure (ps.zip us)):UE K fd ps []:=by
 obtain⟨oc,od,kV,doc,pm,an,cdv,ct,osl,rfl,lk,hcd⟩:=F.ex
 exact .all (h kV doc pm an cdv ct)
theorem Qf {x qual:Str}{st:Stmt}{f:Addr}{oc:Value}{od an:Option Addr}{osl:Array (Option Value)}{kV doc pm cdv ct:Value}(l:K.lookup f=some ⟨oc,od, .func (PySem.W.fnOf x qual (Yx st) (Yi st) (Xi st) .none kV doc pm an cdv ct),osl⟩)
  (c:PySem.W.codeIn K cdv qual=true)(k:PySem.W.keepIn K (.ref f)=true):Fun K x qual st f (PySem.W.fnOf x qual (Yx st) (Yi st) (Xi st) .none kV doc pm an cdv ct):=⟨⟨oc,od,kV,doc,pm,an,cdv,ct,osl,rfl,l,c⟩,k⟩
end
theorem YJ {A:Around}{k:Nat}(hr:Room k A):A.units+1<cLine:=Nat.lt_of_le_of_lt (Nat.add_le_add_left (by decide:1<=64) _) hr.units
theorem FX {n:Nat}(h:n<=1000):n<sizeLine:=Nat.lt_of_le_of_lt h (by decide)
section
variable {X:Cx}
theorem pv (i:Nat){x:Str}{pos:Pos}(hN:X.N[i]?=some x:=by rfl)(hv:Vis X.env.scope x:=by first |exact Or.inl rfl |exact Or.inr (Or.inl rfl) |exact Or.inr (Or.inr rfl))(hd:(x==("__debug__":Str))=false:=by decide)
  (hcd:(x==("__classdict__":Str))=false:=by decide):PE X (.Name x pos) (VM i):=Ha hN hv hd hcd
end
noncomputable def Xp (H H':Hp):Prop:=∀ b o,H b=some o->H' b=some o
theorem Xp.refl (H:Hp):Xp H H:=λ_ _ h=>h
theorem Xp.trans {H H1 H2:Hp}(a:Xp H H1)(b:Xp H1 H2):Xp H H2:=λc o h=>b c o (a c o h)
theorem Xp.free {H H':Hp}(e:Xp H H'){l:Addr}(h:H' l=Option.none):H l=Option.none:=by
 cases q:H l with
 |none=>rfl
 |some o=>
  rw[e l o q] at h
  cases h
theorem Xp.seq {K:PySem.W.Frag}{H H':Hp}{a:Addr}{xs:List V}(e:Xp H H')(h:SqL K H a xs):SqL K H' a xs:=by
 rcases h with(h | ⟨o,h⟩) |h
 ·exact .inl (.inl (e _ _ h))
 ·exact .inl (.inr ⟨o,e _ _ h⟩)
 ·exact .inr h
section
variable {κ:Type}[DecidableEq κ]
noncomputable def GI (kvs:List (κ×V))(k:κ):Option V:=(kvs.find? λkv=>decide (kv.1=k)).map (·.2)
noncomputable def Co (kvs:List (κ×V))(k:κ)(v:V):List (κ×V):=
 if(kvs.any λkv=>decide (kv.1=k))=true then kvs.map (λkv=>if kv.1=k then(kv.1,v) else kv) else kvs++[(k,v)]
noncomputable def E6 (kvs:List (κ×V))(k:κ):List (κ×V):=kvs.filter λkv=>decide (kv.1≠k)
theorem VF {p:κ×V}{r:List (κ×V)}{k:κ}(e:p.1=k):GI (p::r) k=some p.2:=by simp[GI,List.find?_cons,e]
theorem VQ {p:κ×V}{r:List (κ×V)}{k:κ}(e:¬p.1=k):GI (p::r) k=GI r k:=by simp[GI,List.find?_cons,e]
theorem Gd (k:κ):∀kvs:List (κ×V),(kvs.any λkv=>decide (kv.1=k))=(GI kvs k).isSome
 | []=>rfl
 |p::r=>by
  rw[List.any_cons]
  by_cases e:p.1=k
  ·simp only[VF e,decide_eq_true e,Bool.true_or,Option.isSome_some]
  ·rw[VQ e,decide_eq_false e,Bool.false_or];exact Gd k r
theorem Ca.isSome_eq {o:Option V}{u:Option Value}(r:Ca o u):o.isSome=u.isSome:=by
 cases o with
 |none=>cases u with
  |none=>rfl
  |some _=>exact(show False from r).elim
 |some _=>cases u with
  |none=>exact(show False from r).elim
  |some _=>rfl
theorem Ca.getD {o:Option V}{u:Option Value}{d:V}{d':Value}(r:Ca o u)(rd:X8 d d'):X8 (o.getD d) (u.getD d'):=by
 cases o with
 |none=>cases u with
  |none=>exact rd
  |some _=>exact(show False from r).elim
 |some _=>cases u with
  |none=>exact(show False from r).elim
  |some _=>exact r
theorem KV.val {kvs:List (κ×V)}{vs:List (κ×Value)}(r:KV kvs vs)(k:κ):Ca (GI kvs k) (valueAt vs k):=by
 unfold KV at r
 induction r with
 |nil=>exact True.intro
 | @cons p q ps qs h t ih=>
  obtain⟨h1,h2⟩:=h
  by_cases e:p.1=k
  ·have e':q.1=k:=h1.symm.trans e
   have b:valueAt (q::qs) k=some q.2:=by simp[valueAt,List.find?_cons,e']
   rw[VF e,b];exact h2
  ·have e':¬q.1=k:=λz=>e (h1.trans z)
   have b:valueAt (q::qs) k=valueAt qs k:=by simp[valueAt,List.find?_cons,e']
   rw[VQ e,b];exact ih
theorem KV.any {kvs:List (κ×V)}{vs:List (κ×Value)}(r:KV kvs vs)(k:κ):(kvs.any λkv=>decide (kv.1=k))=vs.any λkv=>decide (kv.1=k):=by
 unfold KV at r
 induction r with
 |nil=>rfl
 |cons h t ih=>rw[List.any_cons,List.any_cons,ih,h.1]
theorem KV.repl {kvs:List (κ×V)}{vs:List (κ×Value)}(r:KV kvs vs)(k:κ){y:V}{u:Value}(ry:X8 y u):
  KV (kvs.map λkv=>if kv.1=k then(kv.1,y) else kv) (vs.map λkv=>if kv.1=k then(kv.1,u) else kv):=by
 unfold KV at r⊢
 induction r with
 |nil=>exact .nil
 | @cons p q ps qs h t ih=>
  rw[List.map_cons,List.map_cons]
  refine .cons ?_ ih
  obtain⟨h1,h2⟩:=h
  by_cases e:p.1=k
  ·rw[if_pos e,if_pos (h1.symm.trans e)];exact⟨h1,ry⟩
  ·rw[if_neg e,if_neg (λz=>e (h1.trans z))];exact⟨h1,h2⟩
theorem KV.put {kvs:List (κ×V)}{vs:List (κ×Value)}(r:KV kvs vs)(k:κ){y:V}{u:Value}(ry:X8 y u):KV (Co kvs k y) (stored vs k u):=by
 unfold Co stored
 rw[r.any k]
 by_cases e:(vs.any λkv=>decide (kv.1=k))=true
 ·rw[if_pos e,if_pos e];exact r.repl k ry
 ·rw[if_neg e,if_neg e];exact Paired.snoc r ⟨rfl,ry⟩
theorem KV.drop {kvs:List (κ×V)}{vs:List (κ×Value)}(r:KV kvs vs)(k:κ):KV (E6 kvs k) (without vs k):=by
 unfold KV at r⊢
 unfold E6 without
 induction r with
 |nil=>exact .nil
 | @cons p q ps qs h t ih=>
  obtain⟨h1,h2⟩:=h
  rw[List.filter_cons,List.filter_cons]
  by_cases e:p.1=k
  ·have a:¬decide (p.1≠k)=true:=by simp[e]
   have b:¬decide (q.1≠k)=true:=by simp[h1.symm.trans e]
   rw[if_neg a,if_neg b];exact ih
  ·have e':¬q.1=k:=λz=>e (h1.trans z)
   have a:decide (p.1≠k)=true:=by simp[e]
   have b:decide (q.1≠k)=true:=by simp[e']
   rw[if_pos a,if_pos b];exact .cons ⟨h1,h2⟩ ih
theorem KV.keys {kvs:List (κ×V)}{vs:List (κ×Value)}(r:KV kvs vs):kvs.map (·.1)=vs.map (·.1):=by
 unfold KV at r
 induction r with
 |nil=>rfl
 |cons h t ih=>rw[List.map_cons,List.map_cons,ih,h.1]
theorem KV.length {kvs:List (κ×V)}{vs:List (κ×Value)}(r:KV kvs vs):kvs.length=vs.length:=Paired.length r
end
theorem HS {P:Program}{w:World}{k:Key}{u:Value}(r:X8 (kV k) u):(Za P w).is k u=true:=by
 cases k with
 |inl i=>obtain⟨t,e⟩:=(show ∃t,u=Value.int i t from r);subst e;exact U1 P w i t
 |inr x=>obtain⟨t,e⟩:=(show ∃t,u=Value.str x t from r);subst e;exact Kg P w x t
theorem V5 {P:Program}{w:World}:∀{ks:List Key}{us:List Value},XT (ks.map kV) us->ItemsAre (Za P w) ks us
 | [],_,r=>by rw[List.map_nil] at r;cases r;exact .nil
 |k::ks,_,r=>by
  rw[List.map_cons] at r
  cases r with
  |cons h t=>exact .cons (HS h) (V5 t)
noncomputable abbrev KT (H:Hp):List (List Key×V)->List (List Key×Addr×Value)->Prop:=Paired λp q=>p.1=q.1/\H q.2.1=some (.tup (p.1.map kV))/\X8 p.2 q.2.2
theorem KT.val {H:Hp}{kvs:List (List Key×V)}{xs:List (List Key×Addr×Value)}(r:KT H kvs xs)(k:List Key):Ca (GI kvs k) ((atKey xs k).map (·.2)):=by
 induction r with
 |nil=>exact True.intro
 | @cons p q ps qs h t ih=>
  obtain⟨h1,_,h2⟩:=h
  by_cases e:p.1=k
  ·have e':q.1=k:=h1.symm.trans e
   have b:atKey (q::qs) k=some q.2:=by simp[atKey,List.find?_cons,e']
   rw[VF e,b];exact h2
  ·have e':¬q.1=k:=λz=>e (h1.trans z)
   have b:atKey (q::qs) k=atKey qs k:=by simp[atKey,List.find?_cons,e']
   rw[VQ e,b];exact ih
theorem KT.repl {H:Hp}{kvs:List (List Key×V)}{xs:List (List Key×Addr×Value)}(r:KT H kvs xs)(k:List Key){y:V}{u:Value}(ry:X8 y u):
  KT H (kvs.map λkv=>if kv.1=k then(kv.1,y) else kv) (xs.map (putAt k u)):=by
 induction r with
 |nil=>exact .nil
 | @cons p q ps qs h t ih=>
  rw[List.map_cons,List.map_cons]
  refine .cons ?_ ih
  obtain⟨h1,h2,h3⟩:=h
  unfold putAt
  by_cases e:p.1=k
  ·rw[if_pos e,if_pos (h1.symm.trans e)];exact⟨h1,h2,ry⟩
  ·rw[if_neg e,if_neg (λz=>e (h1.trans z))];exact⟨h1,h2,h3⟩
theorem KT.put {H:Hp}{kvs:List (List Key×V)}{xs:List (List Key×Addr×Value)}(r:KT H kvs xs)(k:List Key){b:Addr}{y:V}{u:Value}(hb:H b=some (.tup (k.map kV)))(ry:X8 y u):
  KT H (Co kvs k y) (storedH xs k b u):=by
 have e:(kvs.any λkv=>decide (kv.1=k))=(atKey xs k).isSome:=by
  rw[Gd,(r.val k).isSome_eq,Option.isSome_map]
 unfold Co storedH
 rw[e]
 by_cases q:(atKey xs k).isSome=true
 ·rw[if_pos q,if_pos q];exact r.repl k ry
 ·rw[if_neg q,if_neg q];exact Paired.snoc r ⟨rfl,hb,ry⟩
theorem KT.keeps {H H':Hp}{kvs:List (List Key×V)}{xs:List (List Key×Addr×Value)}(r:KT H kvs xs)(ht:∀b ys,H b=some (.tup ys)->H' b=some (.tup ys)):KT H' kvs xs:=
 Paired.mapP r λ_ _ z=>⟨z.1,ht _ _ z.2.1,z.2.2⟩
section
variable {P:Program}{w:World}{H:Hp}{h:Heap}{a:Addr}
theorem Hy {ks:List Key}(ok:HOk P w H h)(e:H a=some (.tup (ks.map kV))):(tupleKind (Za P w)).is h ks a:=by
 obtain⟨_,its,r,o,h1,h2,n,h3⟩:=(show YU P w H h a (.tup (ks.map kV)) from ok a _ e)
 exact⟨o,its.toArray,n,h1,h2.1,h3,by simpa using V5 r⟩
end
noncomputable def HJ (H:Hp)(a:Addr)(y:V)(r:Option V):Prop:=
 (∃kvs k,Rd H a (.dK kvs)/\y=kV k/\r=GI kvs k)∨∃kvs k b,Rd H a (.dT kvs)/\y= .ref b/\H b=some (.tup (k.map kV))/\r=GI kvs k
noncomputable def HM (H:Hp)(a:Addr)(y v:V)(H':Hp):Prop:=
 (∃kvs k,H a=some (.dK kvs)/\y=kV k/\kvs.length<sizeLine/\H'=upd H a (.dK (Co kvs k v)))∨
 ∃kvs k b,H a=some (.dT kvs)/\y= .ref b/\H b=some (.tup (k.map kV))/\kvs.length<sizeLine/\H'=upd H a (.dT (Co kvs k v))
theorem HJ.k {H:Hp}{a:Addr}{kvs:List (Key×V)}{k:Key}(e:H a=some (.dK kvs)):HJ H a (kV k) (GI kvs k):=.inl ⟨kvs,k, .inl e,rfl,rfl⟩
theorem HJ.t {H:Hp}{a b:Addr}{kvs:List (List Key×V)}{k:List Key}(e:H a=some (.dT kvs))(eb:H b=some (.tup (k.map kV))):HJ H a (.ref b) (GI kvs k):=.inr ⟨kvs,k,b, .inl e,rfl,eb,rfl⟩
theorem HM.k {H:Hp}{a:Addr}{kvs:List (Key×V)}{k:Key}{v:V}(e:H a=some (.dK kvs))(hl:kvs.length<sizeLine):HM H a (kV k) v (upd H a (.dK (Co kvs k v))):=.inl ⟨kvs,k,e,rfl,hl,rfl⟩
theorem HM.t {H:Hp}{a b:Addr}{kvs:List (List Key×V)}{k:List Key}{v:V}(e:H a=some (.dT kvs))(eb:H b=some (.tup (k.map kV)))(hl:kvs.length<sizeLine):
  HM H a (.ref b) v (upd H a (.dT (Co kvs k v))):=.inr ⟨kvs,k,b,e,rfl,eb,hl,rfl⟩
section
variable {X:Cx}{pins:List (Addr×Obj)}{σ:St}{H:Hp}{s:Shared}{a:Addr}{y v:V}{u r:Value}{o:Option V}{A:Around}{E:Value->Shared->Prop}
end
section
variable {X:Cx}{pins:List (Addr×Obj)}{σ:St}{H:Hp}{s:Shared}{a:Addr}{kvs:List (Key×V)}{k:Key}{u:Value}{A:Around}{E:Value->Shared->Prop}
end
section
variable {X:Cx}{o i e value:Expr}{pos pos' tpos:Pos}{td ty tv:TE}
end
section
variable {X:Cx}{pos:Pos}
end
section
variable {X:Cx}{pins:List (Addr×Obj)}{σ:St}{H:Hp}{s:Shared}{a:Addr}{y d:V}{u r:Value}{o:Option V}{A:Around}{E:Value->Shared->Prop}
end
section
variable {X:Cx}{o e f:Expr}{apos cpos:Pos}{td ty tx:TE}
end
section
variable {X:Cx}{pins:List (Addr×Obj)}{σ:St}{H:Hp}{s:Shared}{a:Addr}{kvs:List (Key×V)}{A:Around}{E:Value->Shared->Prop}
end
section
variable {X:Cx}{pins:List (Addr×Obj)}{σ:St}{H:Hp}{s:Shared}{a:Addr}{y:V}{u:Value}{A:Around}{E:Value->Shared->Prop}
end
section
variable {X:Cx}
end
section
variable {κ:Type}[DecidableEq κ]
end
theorem F0 {env:Env}:∀(names:List (Str×NameKind)),(∀x∈names,x.2=NameKind.free->∃c,env.cells.lookup x.1=some c)->
  ∀cs:List (Str×Addr),(∀x c,cs.lookup x=some c->env.cells.lookup x=some c)->
  ∃cl:List (Str×Addr),(forIn names cs (λ(x:Str×NameKind) (r:List (Str×Addr))=>(if(x.2==NameKind.free)=true then do let a ←cellOf env x.1;pure (ForInStep.yield ((x.1,a)::r)) else pure (ForInStep.yield r):Sem (ForInStep (List (Str×Addr))))))=(pure cl:Sem (List (Str×Addr)))/\
   (∀x c,cl.lookup x=some c->env.cells.lookup x=some c)/\(∀x,((x,NameKind.free)∈names∨∃c,cs.lookup x=some c)->∃c,cl.lookup x=some c)
 | [],_,cs,hs=>⟨cs,by rw[List.forIn_nil],hs,λx h=>h.elim (λz=>nomatch z) id⟩
 | (n,k)::r,hf,cs,hs=>by
  have hr:∀x∈r,x.2=NameKind.free->∃c,env.cells.lookup x.1=some c:=λx hx=>hf x (List.mem_cons_of_mem _ hx)
  by_cases hk:k=NameKind.free
  ·subst hk
   obtain⟨a,ha⟩:=hf (n,NameKind.free) List.mem_cons_self rfl
   have hs':∀x c,((n,a)::cs).lookup x=some c->env.cells.lookup x=some c:=λx c h=>by
    rw[List.lookup_cons] at h
    by_cases hx:x=n
    ·subst hx
     simp only[beq_self_eq_true] at h
     rw[←h];exact ha
    ·have:(x==n)=false:=beq_eq_false_iff_ne.mpr hx
     rw[this] at h
     exact hs x c h
   obtain⟨cl,e,h1,h2⟩:=F0 r hr ((n,a)::cs) hs'
   refine⟨cl,?_,h1,λx h=>h2 x ?_⟩
   ·rw[List.forIn_cons]
    have e1:cellOf env n=pure a:=by unfold cellOf;rw[show env.cells.lookup n=some a from ha]
    simp only[beq_self_eq_true,if_true,e1]
    exact e
   ·rcases h with h | ⟨c,h⟩
    ·rcases List.mem_cons.mp h with h |h
     ·have:x=n:=congrArg Prod.fst h
      subst this
      exact .inr ⟨a,by rw[List.lookup_cons];simp⟩
     ·exact .inl h
    ·by_cases hx:x=n
     ·subst hx;exact .inr ⟨a,by rw[List.lookup_cons];simp⟩
     ·exact .inr ⟨c,by rw[List.lookup_cons,beq_eq_false_iff_ne.mpr hx];exact h⟩
  ·obtain⟨cl,e,h1,h2⟩:=F0 r hr cs hs
   refine⟨cl,?_,h1,λx h=>h2 x ?_⟩
   ·rw[List.forIn_cons]
    have hb:(k==NameKind.free)=false:=by simpa using hk
    simp only[hb,Bool.false_eq_true,if_false]
    exact e
   ·rcases h with h |h
    ·rcases List.mem_cons.mp h with h |h
     ·exact absurd (congrArg Prod.snd h).symm hk
     ·exact .inl h
    ·exact .inr h
theorem UT {scope:Scope}{env:Env}(hf:∀x∈scope.names,x.2=NameKind.free->∃c,env.cells.lookup x.1=some c):
  ∃cl:List (Str×Addr),closureFor scope env=pure cl/\(∀x c,cl.lookup x=some c->env.cells.lookup x=some c)/\(∀x,(x,NameKind.free)∈scope.names->∃c,cl.lookup x=some c):=by
 obtain⟨cl,e,h1,h2⟩:=F0 scope.names hf [] (λx c h=>by simp at h)
 refine⟨cl,?_,h1,λx h=>h2 x (.inl h)⟩
 unfold closureFor
 show((forIn scope.names [] (λ(x:Str×NameKind) (r:List (Str×Addr))=>(if(x.2==NameKind.free)=true then do let a ←cellOf env x.1;pure (ForInStep.yield ((x.1,a)::r)) else pure (ForInStep.yield r):Sem (ForInStep (List (Str×Addr)))))) >>= λs=>pure s)=pure cl
 rw[e]
 rfl
theorem Z5 {env:Env}:∀{names:List (Str×NameKind)}{x:Str}{k:NameKind},(∀y∈names,y.2≠NameKind.cell)->
  (names.map λ(n,k)=>if(k==NameKind.free&&env.scope.kind== .function&&env.kindOf n==some .cell) then(n,NameKind.cell) else(n,k)).lookup x=some k->(k= .cell∨k= .free)->(x,NameKind.free)∈names
 | [],_,_,_,h,_=>by simp at h
 | (n,kk)::r,x,k,hc,h,hk=>by
  have ih:=@Z5 env r x k (λy hy=>hc y (List.mem_cons_of_mem _ hy))
  have hh:=hc (n,kk) List.mem_cons_self
  simp only[List.map_cons] at h
  by_cases hcond:(kk==NameKind.free&&env.scope.kind== .function&&env.kindOf n==some .cell)=true
  ·rw[if_pos hcond,List.lookup_cons] at h
   have hfree:kk=NameKind.free:=by
    rw[Bool.and_eq_true,Bool.and_eq_true] at hcond
    simpa using hcond.1.1
   cases hx:x==n with
   |true=>
    have:x=n:=by simpa using hx
    subst this;subst hfree
    exact List.mem_cons_self
   |false=>rw[hx] at h;exact List.mem_cons_of_mem _ (ih h hk)
  ·rw[if_neg hcond,List.lookup_cons] at h
   cases hx:x==n with
   |true=>
    rw[hx] at h
    have hkk:kk=k:=Option.some.inj h
    have:x=n:=by simpa using hx
    subst this;subst hkk
    rcases hk with z |z
    ·exact absurd z hh
    ·subst z;exact List.mem_cons_self
   |false=>rw[hx] at h;exact List.mem_cons_of_mem _ (ih h hk)
theorem QH {env:Env}:∀{names:List (Str×NameKind)}{x:Str},names.lookup x=some .free->
  let l:=(names.map λ(n,k)=>if(k==NameKind.free&&env.scope.kind== .function&&env.kindOf n==some .cell) then(n,NameKind.cell) else(n,k))
  l.lookup x=some .cell∨l.lookup x=some .free
 | [],_,h=>by simp at h
 | (n,kk)::r,x,h=>by
  have ih:=@QH env r x
  simp only[List.map_cons]
  rw[List.lookup_cons] at h
  by_cases hcond:(kk==NameKind.free&&env.scope.kind== .function&&env.kindOf n==some .cell)=true
  ·rw[if_pos hcond,List.lookup_cons]
   cases hx:x==n with
   |true=>exact .inl rfl
   |false=>rw[hx] at h;exact ih h
  ·rw[if_neg hcond,List.lookup_cons]
   cases hx:x==n with
   |true=>rw[hx] at h;exact .inr h
   |false=>rw[hx] at h;exact ih h
noncomputable abbrev Cx.comp (X:Cx)(N:List Str)(scope:Scope)(cl:List (Str×Addr))(C:Addr)(s:Shared)(H:Hp)(ex:List Addr)(E:Value->Shared->Prop):Cx:=
 {X with N:=N,s₀:=s,H₀:=H,env:=compEnvC scope cl C X.env,outer:=X.stack,ex:=ex,fn:=λ_=>false,pn:=[],xe:=E}
noncomputable def PTs (X:Cx)(ifs:List Expr)(t:TT):Prop:=
 ∀(pins:List (Addr×Obj)) (s:Shared) (σ:St) (H:Hp) (Q:Bool->Hp->Prop),Inv X pins σ H s->t σ H Q->
  wpAny (model X.prog X.w) X.A (forIn ifs true λc r=>if r=true then do let ok ←isTrue c X.env (eval c X.env);pure (ForInStep.yield ok) else pure (ForInStep.yield r)) (TP X pins σ Q) X.xe s
noncomputable def VJ:TT:=λ_ H Q=>Q true H
theorem Hr {σ:St}{H:Hp}{A B:Hp->Prop}(h:A H):VJ σ H λc H5=>if c=true then A H5 else B H5:=by
 show if true=true then A H else B H
 rw[if_pos rfl]
 exact h
theorem YV {X:Cx}:PTs X [] VJ:=λ_ _ _ H _ I h=>wpAny_tests_nil ⟨H,I,h⟩
theorem BS {X:Cx}{c:Expr}{t:TT}(h:PT X c t):PTs X [c] t:=λpins s σ H Q I hw=>wpAny_tests_one (h pins s σ H Q I hw)
noncomputable def VA (n:Nat)(g:TG):Prop:=∀ x σ H Q,g x σ H Q->g x σ H λσ2 H2=>Q σ2 H2/\σ2.length=σ.length/\∀i,n<=i->σ2[i]?=σ[i]?
theorem YH {n i:Nat}(h:i<n):VA n (QC i):=λx σ H Q q=>⟨q,by simp,λj hj=>by rw[List.getElem?_set_ne (by lia)]⟩
noncomputable def Qd (n:Nat)(caps:List (Nat×Str))(σ:St):St:=List.replicate n none++caps.map λp=>(σ[p.1]?).join
noncomputable def BX (g:TG)(tt:TT)(te:TE)(σ:St)(Q:VK)(J:It)(W:Nat->Nat->List V->Hp->Prop):Prop:=
 ∀i m ys H2,W i m ys H2->ys.length<=sizeLine/\
  ((J.stop i H2/\∀p,H2 p=none->Q (.ref p) (upd H2 p (.lst ys)))∨
  (J.go i H2/\∃N:List V->Hp->Prop,(∀ys' H',N ys' H'->∃m',m'<m/\W (i+1) m' ys' H')/\∀x H3,J.yld i H2 x H3->g x σ H3 λσ4 H4=>tt σ4 H4 λc H5=>
   if c=true then te σ4 H5 λv H6=>N (ys++[v]) H6 else N ys H5))
noncomputable def BA (n:Nat)(caps:List (Nat×Str))(g:TG)(tt:TT)(te:TE)(σ:St)(Q:VK)(J:It)(H1:Hp):Prop:=
 ∃W:Nat->Nat->List V->Hp->Prop,(∃m,W 0 m [] H1)/\BX g tt te (Qd n caps σ) Q J W
noncomputable def Gv (n:Nat)(caps:List (Nat×Str))(wi:TI)(g:TG)(tt:TT)(te:TE):TE:=λσ H Q=>wi σ H λJ H1=>BA n caps g tt te σ Q J H1
noncomputable def JT (sc scope:Scope)(N0 tns:List Str)(caps:List (Nat×Str)):Bool:=
 scope.kind== .function&&scope.names.all (λy=>!(y.2== .cell))&&scope.names.all (λy=>!(y.2== .local) || scope.names.lookup y.1==some .local)&&
 scope.names.all (λy=>!(y.2== .free) || sc.names.lookup y.1==some .cell)&&caps.all (λp=>N0[p.1]?==some p.2&&sc.names.lookup p.2==some .cell&&scope.names.lookup p.2==some .free)
theorem Uy {α:Type}{p:α}{P:Prop}(h:p∈([]:List α)):P:=nomatch h
noncomputable def EL (M:Model)(A:Around)(elt tg:Expr)(ifs:List Expr)(acc:Value)(env:Env)(E:Value->Shared->Prop)(K:Shared->Prop)(v:Value)(s:Shared):Prop:=
 wpAny M A (assign tg env v) (λ_ s₂=>wpAny M A (forIn ifs true λc r=>if r=true then do let ok ←isTrue c env (eval c env);pure (ForInStep.yield ok) else pure (ForInStep.yield r)) (λok s₃=>
  if ok=true then wpAny M A (eval elt env) (λx s₄=>wpAny M A (call (.builtin "list.append") [acc,x]) (λ_ s₅=>K s₅) E s₄) E s₃ else K s₃) E s₂) E s
noncomputable def Ih (M:Model)(A:Around)(elt tg:Expr)(ifs:List Expr)(it acc:Value)(env:Env)(E:Value->Shared->Prop)(Rn K:Shared->Prop)(s:Shared):Prop:=
 wpAny M A (pyNext it) (λr s₁=>r=none/\Rn s₁∨∃v,r=some v/\wpAny M A (letOwnedTupleGo tg it v) (λ_ s₁=>EL M A elt tg ifs acc env E K v s₁) E s₁) E s
section
variable {prog:Program}{w:World}{A:Around}{R:Result->Shared->Prop}{s:Shared}
theorem UN {elt target iter:Expr}{ifs:List Expr}{scope:Scope}{pos:Pos}{it acc:Value}{env:Env}{E:Value->Shared->Prop}(I:Nat->Shared->Prop)(hE:(notedBy (model prog w) A env λe s'=>R (.error e) s')=E)
  (turn:∀n s,I n s->Ih (model prog w) A elt target ifs it acc env E (λs=>R (.ok .next) s) (λs=>∃ m,m<n/\I m s) s)(n:Nat)(h:I n s):
  codeAny (model prog w) A (.compLoop (.ListComp elt [⟨target,iter,ifs,0⟩] scope pos) 0 it acc env) R s:=by
 subst hE
 refine codeAny_loop rfl I (λn s hI=>?_) n h
 show wpAny _ A ((compTurn (.ListComp elt [⟨target,iter,ifs,0⟩] scope pos) 0 it acc env).onRaise (λx=>do noteFrame x env;theTreesLotGoes x)) _ _ s
 refine wpAny_noted ?_
 rw[compTurn_list]
 refine wpAny_bind (wpAny_standAt (wpAny_bind (thn (turn n s hI) λr s₁ h₁=>?_)))
 rcases h₁ with⟨rfl,h₁⟩ | ⟨v,rfl,h₁⟩
 ·exact wpAny_pure h₁
 ·refine wpAny_bind (thn h₁ λ_ s₁' h₁'=>wpAny_bind (thn h₁' λ_ s₂ h₂=>wpAny_bind (thn h₂ λok s₃ h₃=>?_)))
  cases ok with
  |false=>exact wpAny_pure ⟨rfl,h₃⟩
  |true=>exact wpAny_bind (wpAny_bind (thn h₃ λx s₄ h₄=>wpAny_bind (thn h₄ λ_ s₅ h₅=>wpAny_pure (wpAny_pure ⟨rfl,h₅⟩))))
end
noncomputable def lob (its:List Value)(k:Nat):Obj:={cls:=.type "list",data:=.seq (List.toArray its) k}
structure CIn (Y:Cx)(tn:Nat->Heap->Prop)(fp:List Addr)(D:Addr)(σ:St)(i:Nat)(H:Hp)(o:Obj)(s:Shared):Prop where
 I:Inv Y [] σ H s
 t:tn i s.heap
 f:∀b∈fp,H b=none
 l:s.heap.get? D=some o
 n:H D=none
inductive CI (Y:Cx)(tn:Nat->Heap->Prop)(fp:List Addr)(D:Addr)(σ:St)(W:Nat->Nat->List V->Hp->Prop)(m:Nat)(s:Shared):Prop
 |mk (i:Nat) (H:Hp) (ys:List V) (its:List Value) (k:Nat) (c:CIn Y tn fp D σ i H (lob its k) s) (r:XT ys its) (w:W i m ys H)
structure CAt (Y:Cx)(fp:List Addr)(D:Addr):Prop where
 calm:Y.calm=true
 pn:Y.pn=[]
 ne:D≠Y.env.locals
 fs:D∉Y.fs
 sz:Y.s₀.heap.objs.size<=D
 cl:∀x c,Y.env.cells.lookup x=some c->c≠D
 fpn:∀b∈fp,b≠D
 ok:∀b∈fp,∀H:Hp,H b=none->Ke Y [] H b
section
variable {Y:Cx}{tn:Nat->Heap->Prop}{fp:List Addr}{D it:Addr}{σ:St}{tg elt iter:Expr}{ifs:List Expr}{J:It}{g:TG}{tt:TT}{te:TE}{n i:Nat}{H:Hp}{s:Shared}{o:Obj}{Kn:Shared->Prop}
theorem CAt.pins (c:CAt Y fp D)(hn:∀b∈fp,H b=none):∀b∈fp,Ke Y [(D,o)] H b:=λb hb=>
 have z:=c.ok b hb H (hn b hb)
 ⟨z.1,z.2.1,z.2.2.1,z.2.2.2.1,z.2.2.2.2.1,λp hp e=>by
  rw[c.pn] at hp
  cases List.mem_singleton.mp hp
  exact c.fpn b hb e.symm⟩
theorem KD (T:Turn Y.prog Y.w Y.K tg J fp it tn){h5:Heap}(t:tn i h5)(I:Inv Y ([(D,o)]++Ua fp h5) σ H s):CIn Y tn fp D σ i H o s:=
 have p:=I.pin (D,o) (List.mem_append_right _ (.head _))
 have q:∀b∈fp,∀o',h5.get? b=some o'->s.heap.get? b=some o'/\H b=none:=λb hb o' e=>have z:=I.pin (b,o') (List.mem_append_right _ (.tail _ (Qr hb e)));⟨z.1,z.2.1⟩
 ⟨I.pins_of (pins':=[]) λ_ h=>Uy h,T.keep _ _ _ t λb hb o' e=>(q b hb o' e).1,λb hb=>(T.obj _ _ t b hb).elim λo' e=>(q b hb o' e.1).2,p.1,p.2.1⟩
theorem IZ (T:Turn Y.prog Y.w Y.K tg J fp it tn)(a:CAt Y fp D){its:List Value}{k:Nat}{v:Value}{E:Value->Shared->Prop}(c:CIn Y tn fp D σ i H (lob its k) s)(hz:its.length<=sizeLine)
  (hQ:∀k' s',CIn Y tn fp D σ i H (lob (its++[v]) k') s'->Kn s'):wpAny (model Y.prog Y.w) Y.A (call (.builtin "list.append") [.ref D,v]) (λ_ s=>Kn s) E s:=by
 refine call_meets F.slot_list_append ⟨_,c.l,rfl⟩ F.entry_list_append (F.args_list_append_2 _ _) (PySem.list_append D (List.toArray its) k v hz) ⟨c.l,?_⟩
 have q:∃k',PySem.IsL (s.heap.update D (Obj.mapSeq (·.push v))) D ((List.toArray its).push v) k':=⟨_,PySem.IsL.update c.l (·.push v)⟩
 rw[List.push_toArray] at q
 obtain⟨k',q⟩:=q
 exact hQ k' _ ⟨c.I.turned (t':=s.toks) (h':=s.heap.update D (Obj.mapSeq (·.push v))) (it:=D) (λb o hb' e=>(Heap.get?_update_other s.heap _ (Ne.symm hb')).trans e) c.n a.ne (.inr a.sz) a.cl (λp hp=>by rw[a.pn] at hp;exact Uy hp),
  T.keep _ _ _ c.t λb hb o e=>(Heap.get?_update_other s.heap _ (Ne.symm (a.fpn b hb))).trans e,c.f,q,c.n⟩
theorem CF {acc:Value}{pins:List (Addr×Obj)}{N:List V->Hp->Prop}{ys:List V}{x:V}{u:Value}(hg:PG Y tg g)(ht:PTs Y ifs tt)(he:PE Y elt te)(hG:VA n g)(h0:∀(j:Nat) v,σ[j]?=some (some v)->n<=j)
  (I:Inv Y pins σ H s)(r:X8 x u)(st:g x σ H λσ4 H4=>tt σ4 H4 λc H5=>if c=true then te σ4 H5 λv H6=>N (ys++[v]) H6 else N ys H5)
  (hF:∀H7 s7,Inv Y pins σ H7 s7->N ys H7->Kn s7)(hT:∀H8 s8 y v,Inv Y pins σ H8 s8->X8 y v->N (ys++[y]) H8->wpAny (model Y.prog Y.w) Y.A (call (.builtin "list.append") [acc,v]) (λ_ s=>Kn s) Y.xe s8):
  EL (model Y.prog Y.w) Y.A elt tg ifs acc Y.env Y.xe Kn u s:=by
 refine thn (hg _ s _ H x u _ I r (hG _ _ _ _ st)) λ_ s6 r9=>?_
 obtain⟨σ6,H6,I6,q6,l6,k6⟩:=r9
 have wk:∀(j:Nat) v,σ[j]?=some (some v)->σ6[j]?=some (some v):=λj v e=>(k6 j (h0 j v e)).trans e
 refine thn (ht _ s6 σ6 H6 _ I6 q6) λc s7 r9=>?_
 obtain⟨H7,I7,q7⟩:=r9
 cases c with
 |false=>exact hF _ _ (I7.weak l6.symm wk) q7
 |true=>exact thn (he _ s7 σ6 H7 _ I7 q7) λv8 s8 r9=>by obtain⟨y8,H8,I8,r8,n8⟩:=r9;exact hT _ _ _ _ (I8.weak l6.symm wk) r8 n8
theorem JX {scope:Scope}{pos:Pos}{Q:V->Hp->Prop}{R:Result->Shared->Prop}(hE:(notedBy (model Y.prog Y.w) Y.A Y.env λe s'=>R (.error e) s')=Y.xe)
  (T:Turn Y.prog Y.w Y.K tg J fp it tn)(hG:VA n g)(hg:PG Y tg g)(ht:PTs Y ifs tt)(he:PE Y elt te)(a:CAt Y fp D)(h0:∀(j:Nat) v,σ[j]?=some (some v)->n<=j)
  {W:Nat->Nat->List V->Hp->Prop}(turn:BX g tt te σ Q J W)
  (hEnd:∀ys its k H3 s4,Inv Y [(D,lob its k)] σ H3 s4->XT ys its->ys.length<=sizeLine->Q (.ref D) (upd H3 D (.lst ys))->R (.ok .next) s4){m0:Nat}(hi:CI Y tn fp D σ W m0 s):
  codeAny (model Y.prog Y.w) Y.A (.compLoop (.ListComp elt [⟨tg,iter,ifs,0⟩] scope pos) 0 (.ref it) (.ref D) Y.env) R s:=by
 refine UN (CI Y tn fp D σ W) hE (λm s3 c=>?_) m0 hi
 cases c with
 |mk i H3 ys its k c rv w3=>
 have I3:Inv Y [(D,lob its k)] σ H3 s3:=c.I.pins_of λp hp=>List.mem_singleton.mp hp▸⟨c.l,c.n,a.ne,a.fs,λ_ z=>by cases z⟩
 have t:=turn i m ys H3 w3
 refine t.2.elim (λq=>?_) λq=>?_
 ·exact thn (T.done Y rfl rfl rfl a.calm i _ s3 _ H3 Y.xe I3 (a.pins c.f) c.t q.1) λr s4 h=>.inl ⟨h.1,hEnd ys its k H3 s4 h.2 rv t.1 (q.2 D c.n)⟩
 ·refine q.2.elim λNN h=>?_
  refine thn (T.item Y rfl rfl rfl a.calm i _ s3 _ H3 Y.xe I3 (a.pins c.f) c.t q.1) λr s4 h4=>.inr (h4.elim λu h4=>⟨u,h4.1,thn h4.2 λ_ s5 h5=>h5.elim λx h5=>h5.elim λH5 h5=>?_⟩)
  exact CF hg ht he hG h0 (h5.1.pinned (a.pins h5.2.2.2.2) (T.obj _ _ h5.2.2.2.1)) h5.2.1 (h.2 x H5 h5.2.2.1)
   (λH7 s7 I7 q7=>(h.1 _ _ q7).elim λm' z=>⟨m',z.1, .mk (i+1) H7 ys its k (KD T h5.2.2.2.1 I7) rv z.2⟩)
   λH8 s8 y v I8 r8 q8=>(h.1 _ _ q8).elim λm' z=>IZ T a (KD T h5.2.2.2.1 I8) (rv.length▸t.1) λk' s' c'=>⟨m',z.1, .mk (i+1) H8 (ys++[y]) (its++[v]) k' c' (rv.append (.cons r8 .nil)) z.2⟩
end
section
variable {X:Cx}{elt tg iter:Expr}{ifs:List Expr}{scope sc:Scope}{pos:Pos}{n:Nat}{tns:List Str}{caps:List (Nat×Str)}{wi:TI}{g:TG}{tt:TT}{te:TE}
structure CompEnd (X:Cx)(pins:List (Addr×Obj))(σ:St)(H3:Hp)(D C:Addr)(ys:List V)(s':Shared):Prop where
 inv:Inv X pins σ (upd H3 D (.lst ys)) s'
 fresh:H3 D=none
 fp:Ke X pins (upd H3 D (.lst ys)) C
 ns:∃m,s'.heap.Ns C m
theorem KG {pins:List (Addr×Obj)}{σ σ':St}{H H3:Hp}{s s4:Shared}{D C:Addr}{fp:List Addr}{its:List Value}{k:Nat}{ys:List V}{Y:Cx}(I:Inv X pins σ H s)(hf:∀b∈fp,Ke X pins H b)(hD:s.heap.objs.size<=D)(hDlt:D<C)
  (I4:Inv Y [(D,lob its k)] σ' H3 s4)(hos:s4.os=s.os)(u:Un (frs X.stack) fp H H3 s.heap s4.heap)(hok:HOk X.prog X.w H3 s4.heap)(hC:Y.env.locals=C)(rv:XT ys its)(hz:ys.length<=sizeLine):CompEnd X pins σ H3 D C ys s4:=by
 subst hC
 have p:=I4.pin (D,lob its k) (List.mem_append_right _ (.head _))
 have hDn:H3 D=none:=p.2.1
 have up:∀{b:Addr}{o:HO},H3 b=some o->upd H3 D (.lst ys) b=some o:=λe=>(Xw (XC e hDn)).trans e
 refine⟨I.call' (ch:=fp) hos ⟨u.keep,u.slot,λb o e nn hx=>(Xw (Nat.ne_of_lt (Nat.lt_of_lt_of_le (Heap.lt_size e) hD))).trans (u.free b o e nn hx),u.there,λb xs e=>up (u.tups b xs e),λb o xs e=>up (u.frzs b o xs e),λb ps e=>(u.tbls b ps e).elim λmore z=>⟨more,up z⟩⟩ (λa o e=>?_) I4.bare λb hb=>have z:=hf b hb;⟨z.2.2.2.1,z.2.1,z.2.2.2.2.1,z.2.2.2.2.2⟩,hDn,I.fpOk (Nat.le_trans hD (Nat.le_of_lt hDlt)) ((Xw (Nat.ne_of_gt hDlt)).trans I4.free),I4.loc.elim λm z=>⟨m,z.1⟩⟩
 by_cases ha:a=D
 ·subst ha
  rw[Yf] at e;cases e
  exact⟨hz,its,k,rv,p.1⟩
 ·rw[Xw ha] at e
  exact(hok a o e).stay (λb u _ q=>q) (λb q=>up q) λb xs q=>up q
noncomputable def IT (X:Cx)(elt tg iter:Expr)(ifs:List Expr)(scope:Scope)(pos:Pos)(it:Value)(cl:List (Str×Addr))(RR:Value->Addr->Result->Shared->Prop)(E:Value->Shared->Prop)(s:Shared):Prop:=
 wpAny (model X.prog X.w) X.A (newList []) (λacc s₃=>wpAny (model X.prog X.w) X.A (newFunctionEnv scope X.env.globals cl [] X.env.qual none .none (some X.env)) (λcenv s₄=>
   codeAny (model X.prog X.w) X.A (.compStart (.ListComp elt [⟨tg,iter,ifs,0⟩] scope pos) 0 it acc {cenv with scope:=relabel scope X.env}) (RR acc cenv.locals) s₄) E s₃) E s
theorem Jq {σ:St}{i:Nat}{v:V}(e:(Qd n caps σ)[i]?=some (some v)):n<=i/\∃p,caps[i-n]?=some p/\σ[p.1]?=some (some v):=by
 unfold Qd at e
 by_cases h:i<n
 ·rw[List.getElem?_append_left (by simpa using h),List.getElem?_replicate,if_pos h] at e
  cases e
 ·have hi:=Nat.le_of_not_lt h
  rw[List.getElem?_append_right (by simpa using hi),List.length_replicate,List.getElem?_map] at e
  refine⟨hi,?_⟩
  cases hcp:caps[i-n]? with
  |none=>rw[hcp] at e;cases e
  |some p=>
   rw[hcp] at e
   exact⟨p,rfl,Option.join_eq_some_iff.mp (Option.some.inj e)⟩
structure COk (X:Cx)(scope:Scope)(caps:List (Nat×Str)):Prop where
 kind:scope.kind= .function
 cell:∀y∈scope.names,y.2≠NameKind.cell
 loc:∀y∈scope.names,y.2= .local->scope.names.lookup y.1=some .local
 free:∀y∈scope.names,y.2= .free->X.env.scope.names.lookup y.1=some .cell
 caps:∀p∈caps,(X.N[p.1]?=some p.2/\X.env.scope.names.lookup p.2=some .cell)/\scope.names.lookup p.2=some .free
theorem COk.of {N0:List Str}(hsc:X.env.scope=sc)(hN0:X.N=N0)(ok:JT sc scope N0 tns caps=true):COk X scope caps:=by
 subst hsc
 subst hN0
 unfold JT at ok
 simp only[Bool.and_eq_true,List.all_eq_true,beq_iff_eq,Bool.or_eq_true,Bool.not_eq_true',beq_eq_false_iff_ne] at ok
 exact⟨ok.1.1.1.1,ok.1.1.1.2,λy hy e=>(ok.1.1.2 y hy).resolve_left (absurd e),λy hy e=>(ok.1.2 y hy).resolve_left (absurd e),ok.2⟩
section
variable {pins:List (Addr×Obj)}{σ:St}{H:Hp}{s:Shared}{fp:List Addr}{cl:List (Str×Addr)}{C:Addr}{E:Value->Shared->Prop}{N:List Str}{h₁:Heap}
theorem G4 (ok:COk X scope caps)(I:Inv X pins σ H s)(hf:∀b∈fp,Ke X pins H b)(hlt:∀b∈fp,b<s.heap.objs.size)
  (hsub:∀x c,cl.lookup x=some c->X.env.cells.lookup x=some c)(hall:∀x,(x,NameKind.free)∈scope.names->∃c,cl.lookup x=some c)(hC:s.heap.objs.size<C):(X.comp N scope cl C s H fp E).Ok:=
 ⟨I.ok.mod,ok.kind,I.ok.glob,I.ok.blt,Nat.le_of_lt hC,λx y c h1 h2=>I.ok.inj x y c (hsub x c h1) (hsub y c h2),λx hx=>hall x (hx.elim (λz=>Z5 ok.cell z (.inl rfl)) λz=>Z5 ok.cell z (.inr rfl)),(λx c hx=>by cases hx),I.ok.hd,I.ok.frames, .inl rfl,
  λb hb=>⟨Nat.ne_of_lt (Nat.lt_trans (hlt b hb) hC),λx c e=>(hf b hb).2.2.2.2.1 x c (hsub x c e)⟩,I.bs,Nat.le_trans I.ok.bsz I.sz,λb o e hb=>(hf b hb).2.2.2.1.elim (I.ok.noex b o e) λz=>absurd (Nat.lt_of_lt_of_le (Heap.lt_size e) (Nat.le_trans I.ok.bsz z)) (Nat.lt_irrefl _),
  λb hb hz=>(List.mem_cons.mp (I.stkSub b hz)).elim (hf b hb).2.1 (hf b hb).2.2.1,I.stack,I.stkFree⟩
theorem Kr (okc:COk X scope caps)(hn:tns.length=n)(ok:(X.comp (tns++caps.map (·.2)) scope cl C s H fp E).Ok)(I:Inv X pins σ H s)
  (hsub:∀x c,cl.lookup x=some c->X.env.cells.lookup x=some c)(hall:∀x,(x,NameKind.free)∈scope.names->∃c,cl.lookup x=some c)(hC:s.heap.objs.size<C)(hns:h₁.Ns C λ_=>none)(old:∀b o,s.heap.get? b=some o->h₁.get? b=some o){tk:Nat}:
  Inv (X.comp (tns++caps.map (·.2)) scope cl C s H fp E) [] (Qd n caps σ) H {s with heap:=h₁,toks:=tk}:=by
 refine⟨ok,rfl,I.bare,Un.kept old,⟨_,hns,λi x v e1 e2 _=>?_⟩,λx c e=>(I.cell x c (hsub x c e)).elim λv z=>z.elim λo z=>⟨v,o,old _ _ z.1,z.2⟩,I.hok.fresh (Nat.le_of_lt hC),λx c e=>I.freeC x c (hsub x c e),λp hp=>Uy (α:=Addr×Obj) hp,I.hok.kept old,by simp[Qd,hn]⟩
 obtain⟨hi,p,hp,hσ⟩:=Jq e2
 have e1':(tns++caps.map (·.2))[i]?=some x:=e1
 rw[List.getElem?_append_right (hn▸hi),hn,List.getElem?_map,hp] at e1'
 cases Option.some.inj e1'
 have p5:=okc.caps p (List.mem_of_getElem? hp)
 obtain⟨m,hm,hl⟩:=I.loc
 obtain⟨u,r,l⟩:=hl p.1 p.2 v p5.1.1 hσ (.inr (.inl p5.1.2))
 refine⟨u,r, .inr ?_⟩
 rcases l with⟨k,_⟩ | ⟨k,c,e,z⟩
 ·cases p5.1.2.symm.trans k
 ·obtain⟨c',e'⟩:=hall p.2 (PySem.mem_of_lookup p5.2)
  cases e.symm.trans (hsub _ _ e')
  exact⟨QH (env:=X.env) p5.2,c,e',z.elim λo z=>⟨o,old _ _ z.1,z.2⟩⟩
variable {J:It}{it:Addr}{tn:Nat->Heap->Prop}{Q:V->Hp->Prop}{RR:Value->Addr->Result->Shared->Prop}{W:Nat->Nat->List V->Hp->Prop}{m0:Nat}
theorem B7 (ok:COk X scope caps)(hc:X.calm=true)(hn:tns.length=n)(hG:VA n g)
  (hb:∀cl C s H ex E,PG (X.comp (tns++caps.map (·.2)) scope cl C s H ex E) tg g/\PTs (X.comp (tns++caps.map (·.2)) scope cl C s H ex E) ifs tt/\PE (X.comp (tns++caps.map (·.2)) scope cl C s H ex E) elt te)
  (I:Inv X pins σ H s)(T:Turn X.prog X.w X.K tg J fp it tn)(t0:tn 0 s.heap)(hf:∀b∈fp,Ke X pins H b)
  (hsub:∀x c,cl.lookup x=some c->X.env.cells.lookup x=some c)(hall:∀x,(x,NameKind.free)∈scope.names->∃c,cl.lookup x=some c)
  (w0:W 0 m0 [] H)(turn:BX g tt te (Qd n caps σ) Q J W)
  (hRR:∀D C ys H3 s',CompEnd X pins σ H3 D C ys s'->Q (.ref D) (upd H3 D (.lst ys))->RR (.ref D) C (.ok .next) s')
  (hC:s.heap.objs.size<C)(hns:h₁.Ns C λ_=>none)(old:∀b o,s.heap.get? b=some o->h₁.get? b=some o)(hacc:h₁.get? s.heap.objs.size=some (lob [] 0)){tk:Nat}:
  codeAny (model X.prog X.w) X.A (.compStart (.ListComp elt [⟨tg,iter,ifs,0⟩] scope pos) 0 (.ref it) (.ref s.heap.objs.size) (compEnvC scope cl C X.env)) (RR (.ref s.heap.objs.size) C) {s with heap:=h₁,toks:=tk}:=by
 have hlt:∀b∈fp,b<s.heap.objs.size:=λb hb=>(T.obj _ _ t0 b hb).elim λo e=>Heap.lt_size e.1
 have okY:∀E,(X.comp (tns++caps.map (·.2)) scope cl C s H fp E).Ok:=λE=>G4 ok I hf hlt hsub hall hC
 have t1:tn 0 h₁:=T.keep _ _ _ t0 λb _ o e=>old b o e
 have loop:∀tk,codeAny (model X.prog X.w) X.A (.compLoop (.ListComp elt [⟨tg,iter,ifs,0⟩] scope pos) 0 (.ref it) (.ref s.heap.objs.size) (compEnvC scope cl C X.env)) (RR (.ref s.heap.objs.size) C) {s with heap:=h₁,toks:=tk}:=λtk=>
  have z:=hb cl C s H fp (notedBy (model X.prog X.w) X.A (compEnvC scope cl C X.env) λe s'=>RR (.ref s.heap.objs.size) C (.error e) s')
  JX (Y:=X.comp (tns++caps.map (·.2)) scope cl C s H fp _) rfl T hG z.1 z.2.1 z.2.2
   ⟨hc,rfl,Nat.ne_of_lt hC,λhz=>(I.stack.mem hz).2.elim λo ho=>absurd (Heap.lt_size ho.1) (Nat.lt_irrefl _),Nat.le_refl _,λx c e=>(I.cell x c (hsub x c e)).elim λv z=>Nat.ne_of_lt z.lt,λb hb=>Nat.ne_of_lt (hlt b hb),
    λb hb H' h'=>⟨h',Nat.ne_of_lt (Nat.lt_trans (hlt b hb) hC),(okY λ_ _=>True).exfs b hb, .inl hb,λx c e=>(hf b hb).2.2.2.2.1 x c (hsub x c e),λp hp=>Uy (α:=Addr×Obj) hp⟩⟩
   (λj v e=>(Jq e).1) turn (λys its k H3 s4 I4 rv hz q=>hRR _ C ys H3 s4 (KG I hf (Nat.le_refl _) hC I4 I4.os I4.base I4.hok rfl rv hz) q)
   (.mk 0 H [] [] 0 ⟨Kr ok hn (okY _) I hsub hall hC hns old,t1,λb hb=>(hf b hb).1,hacc,I.hok.fresh (Nat.le_refl _)⟩ .nil w0)
 exact codeAny_compStart_list (loop _) (T.self _ 0 _ _ _ t1 (loop _))
theorem JZ (ok:COk X scope caps)(hc:X.calm=true)(hn:tns.length=n)(hG:VA n g)
  (hb:∀cl C s H ex E,PG (X.comp (tns++caps.map (·.2)) scope cl C s H ex E) tg g/\PTs (X.comp (tns++caps.map (·.2)) scope cl C s H ex E) ifs tt/\PE (X.comp (tns++caps.map (·.2)) scope cl C s H ex E) elt te)
  {itv:Value}(h:PIE X pins σ tg (λJ H1=>BA n caps g tt te σ Q J H1) itv s)
  (hsub:∀x c,cl.lookup x=some c->X.env.cells.lookup x=some c)(hall:∀x,(x,NameKind.free)∈scope.names->∃c,cl.lookup x=some c)
  (hRR:∀D C ys H3 s',CompEnd X pins σ H3 D C ys s'->Q (.ref D) (upd H3 D (.lst ys))->RR (.ref D) C (.ok .next) s'):
  IT X elt tg iter ifs scope pos itv cl RR E s:=by
 obtain⟨it,fp,tn,J,H',rfl,I,T,t0,hf,W,⟨m0,w0⟩,turn⟩:=h
 refine wpAny_newObj_type (wpAny_newFunctionEnv ok.cell (by intro y hy;simp at hy) (λh₁ hns₁ hsb₁=>?_) ok.kind)
 have hs:∀o,(s.heap.push o).objs.size=s.heap.objs.size+1:=λo=>Heap.size_push ..
 exact B7 ok hc hn hG hb I T t0 hf hsub hall w0 turn hRR (Nat.lt_of_lt_of_eq (Nat.lt_succ_self _) (hs _).symm) hns₁
  (λb o e=>hsb₁.extBut b o (Nat.ne_of_lt (Nat.lt_trans (Heap.lt_size e) (Nat.lt_of_lt_of_eq (Nat.lt_succ_self _) (hs _).symm))) (Heap.get?_push_of_some _ (Heap.get?_push_of_some _ e)))
  (hsb₁.extBut _ _ (Nat.ne_of_lt (Nat.lt_of_lt_of_eq (Nat.lt_succ_self _) (hs _).symm)) (Heap.get?_push_of_some _ (Heap.get?_push_size _ rfl)))
end
theorem BM (sc:Scope)(N0:List Str)(tns:List Str)(caps:List (Nat×Str))(hc:X.calm=true)(hi:PI X tg iter wi)(hG:VA tns.length g)
  (hb:∀cl C s H ex E,PG (X.comp (tns++caps.map (·.2)) scope cl C s H ex E) tg g/\PTs (X.comp (tns++caps.map (·.2)) scope cl C s H ex E) ifs tt/\PE (X.comp (tns++caps.map (·.2)) scope cl C s H ex E) elt te)
  (hsc:X.env.scope=sc:=by rfl)(hN0:X.N=N0:=by rfl)(ok:JT sc scope N0 tns caps=true:=by decide+kernel)
  (hs:∀x,foldedSetIterable iter X.env x=pure x:=by intro _;rfl):
  PE X (.ListComp elt [⟨tg,iter,ifs,0⟩] scope pos) (Gv tns.length caps wi g tt te):=by
 intro pins s σ H Q I h
 have okc:=COk.of hsc hN0 ok
 obtain⟨cl,ecl,hsub,hall⟩:=UT (scope:=scope) (env:=X.env) λx hx hfr=>I.ok.has x.1 (.inl (okc.free x hx hfr))
 rw[eval_ListComp]
 exact wpAny_comprehension_free (use:=none) rfl hs ecl okc.kind okc.loc (thn (hi pins s σ H _ I h) λxv s₁ h₁=>thn h₁ λitv s₂ h₂=>
  JZ (RR:=λacc C=>compPost (model X.prog X.w) X.A X.xe none (EP X pins σ Q) acc C) okc hc rfl hG hb h₂ hsub hall λD C ys H3 s' ce q=>ce.ns.elim λmm hns=>
   ⟨mm,hns,λh' hs'=>⟨.ref D,_,ce.inv.turned (t':=s'.toks) (λb o hb' e=>(hs'.extBut b o hb' e)) ce.fp.1 ce.fp.2.1 ce.fp.2.2.2.1 ce.fp.2.2.2.2.1 ce.fp.2.2.2.2.2,rfl,q⟩⟩)
theorem Ki {x:Str}{px spos:Pos}(j:Nat)(sc:Scope)(N0:List Str)(tns:List Str)(caps:List (Nat×Str))(hc:X.calm=true)(hN:X.N.Nodup)(hj:X.N[j]?=some x)(hx:X.env.scope.names.lookup x=some .local)(hi:PI X tg iter wi)(hG:VA tns.length g)
  (hb:∀cl C s H ex E,PG (X.comp (tns++caps.map (·.2)) scope cl C s H ex E) tg g/\PTs (X.comp (tns++caps.map (·.2)) scope cl C s H ex E) ifs tt/\PE (X.comp (tns++caps.map (·.2)) scope cl C s H ex E) elt te)
  (hsc:X.env.scope=sc:=by rfl)(hN0:X.N=N0:=by rfl)(ok:JT sc scope N0 tns caps=true:=by decide+kernel)
  (hsw:swapsWith (.ListComp elt [⟨tg,iter,ifs,0⟩] scope pos) (some (.Name x px)) spos.line X.env=pure true:=by rfl)
  (hs:∀x,foldedSetIterable iter X.env x=pure x:=by intro _;rfl):
  PS X (.Assign [.Name x px] (.ListComp elt [⟨tg,iter,ifs,0⟩] scope pos) spos) (GV (Gv tns.length caps wi g tt te) (QC j)):=by
 intro pins s σ H D I h
 have okc:=COk.of hsc hN0 ok
 obtain⟨cl,ecl,hsub,hall⟩:=UT (scope:=scope) (env:=X.env) λx hx hfr=>I.ok.has x.1 (.inl (okc.free x hx hfr))
 rw[exec_Assign_Name_used _ _ _ _ hsw]
 refine wpAny_bind (wpAny_standAt (wpAny_bind ?_))
 show wpAny _ _ (do let _ ←comprehension (.ListComp elt [⟨tg,iter,ifs,0⟩] scope pos) scope X.env _ (newList []) false (eval iter X.env) (some (assign (.Name x px) X.env))) _ _ s
 refine wpAny_bind (thn (wpAny_comprehension_free (use:=some (assign (.Name x px) X.env)) (Q:=λ_ s'=>SP X pins D .next s') rfl hs ecl okc.kind okc.loc
  (thn (hi pins s σ H _ I h) λxv s₁ h₁=>thn h₁ λitv s₂ h₂=>?_)) λ_ s' hq=>wpAny_pure (wpAny_pure hq))
 refine JZ (Q:=λv H1=>QC j v σ H1 D.nx) (RR:=λacc C=>compPost (model X.prog X.w) X.A X.xe (some (assign (.Name x px) X.env)) (λ_ s'=>SP X pins D .next s') acc C) okc hc rfl hG hb h₂ hsub hall ?_
 intro DD C ys H3 s' ce q
 obtain⟨mm,hns⟩:=ce.ns
 obtain⟨c0,c1,c2,c3,c4,c5⟩:=ce.fp
 show wpAny _ _ (assign (.Name x px) X.env (.ref DD)) _ _ _
 refine wpAny_assign_Name (V6 ce.inv hN hj (.inl hx) (v:=.ref DD) rfl (λs2 I2 chg=>?_) (.inr hx))
 obtain⟨c,hsb,hcc⟩:=chg
 have hCc:C≠c:=by
  rcases hcc with z |z
  ·rw[z];exact c1
  ·exact λe=>c4 x c z e.symm
 refine⟨mm,?_,λh' hs'=>?_⟩
 ·obtain⟨o,es,ep,ho,r⟩:=hns
  exact⟨o,es,ep,(hsb.2 C hCc).trans ho,r⟩
 ·exact⟨_,_,I2.turned (t':=s2.toks) (λb o hb' e=>(hs'.extBut b o hb' e)) c0 c1 c3 c4 c5,q⟩
end
section
variable {K:PySem.W.Frag}{a:Addr}{xs:List V}{n:Nat}{caps:List (Nat×Str)}{g:TG}{tt:TT}{te:TE}{σ:St}{H:Hp}{Q:V->Hp->Prop}
end
section
variable {X:Cx}{pos:Pos}
noncomputable def GK (K:PySem.W.Frag):List V->Hp->VK->Prop:=λxs H Q=>∃ p ys,xs=[.ref p]/\(SqL K H p ys∨SqT K H p ys)/\∀l,H l=none->Q (.ref l) (upd H l (.lst ys))
noncomputable def FV (K:PySem.W.Frag):List V->Hp->VK->Prop:=λxs H Q=>∃ p ys,xs=[.ref p]/\(SqL K H p ys∨SqT K H p ys)/\Q (.int ys.length) H
theorem YZ (K:PySem.W.Frag)(h:X.K=K):ZJ X (.type "list") (GK K):=by subst h;exact Uz
theorem Xx (K:PySem.W.Frag)(h:X.K=K):ZJ X (.builtin "len") (FV K):=by subst h;exact V4
theorem Xo (K:PySem.W.Frag)(h:X.K=K):IxR X (Ei K):=by subst h;exact BK
theorem VV (K:PySem.W.Frag)(h:X.K=K):IxR X (HP K):=by subst h;exact Hk
theorem VW (K:PySem.W.Frag)(h:X.K=K):SlR X (HH K):=by subst h;exact EF
end
structure Fn (P:Program)(w:World)(K:PySem.W.Frag)(mg:Str->Option Value)(base:Heap)(k:Nat)(x:Str)(ps:List Str)(sp:Sp):Prop where
 ex:∃f fd,FnOk P w K mg base CX0 k f fd ps sp/\UE K fd ps []/\PySem.W.keepIn K (.ref f)=true/\mg x=some (.ref f)
section
variable {X:Cx}{k j:Nat}{x:Str}{ps:List Str}{sp:Sp}{e:Expr}{es:List Expr}{t:TA}{p pos:Pos}
theorem Yh (G:Fn X.prog X.w X.K X.mg X.base k x ps sp)(hr:Room j X.A)(hj:k<=j)(ha:PA X (e::es) t)(hg:Gl X x:=by rfl)(hdb:(x==("__debug__":Str))=false:=by decide)
  (he:starEach (e::es) X.env=(false,eval e X.env)::starEach es X.env:=by rfl)(hpl:(backTo pos (starEach es X.env)).any (·.1)=false:=by rfl):
  PE X (.Call (.Name x p) (e::es) [] pos) (Um sp [] E0 t):=by
 obtain⟨f,fd,F,b,kp,m⟩:=G.ex
 exact Fs F (hr.mono hj) hg m kp b .nil HU ha hdb he hpl
end
noncomputable def Def (K:PySem.W.Frag)(mg:Str->Option Value)(x:Str)(st:Stmt)(ps:List Str):Prop:=∃ f fd,Fun K x x st f fd/\UE K fd ps []/\mg x=some (.ref f)
theorem Zf {P:Program}{w:World}{K:PySem.W.Frag}{mg:Str->Option Value}{base:Heap}{x:Str}{st:Stmt}{N ps:List Str}{k:Nat}{sp:Sp}(D:Def K mg x st ps)(S:FnScope N ps (Xi st))(len:∀vs H Q E,sp vs H Q E->vs.length=ps.length)
  (hbody:∀(f:Addr) (cdv:Value) (A:Around) (outer:List Env) (s:Shared) (H:Hp) (vs:List V) (Q:VK) (E:XK),Room k (A.deeper (envOfC x (Xi st) s.heap.objs.size f cdv))->sp vs H Q E->
   ∃t,PSs (KS CX0 P w K mg base N x (Xi st) f cdv A outer s H E).nox (Yi st) t/\t {nx:=λ_ H'=>Q .non H',rt:=Q} (JG N vs) H):Fn P w K mg base (k+1) x ps sp:=by
 obtain⟨f,fd,F,b,m⟩:=D
 exact⟨f,fd,F.ok S len (hbody f),b,F.kp,m⟩
theorem UX {a d c:Nat}(h:d<=8)(hu:a+8<c):a+d<c:=by omega
theorem Zq {H:Hp}{p:Addr}(h:H p=none)(o:HO):Xp H (upd H p o):=λb u q=>by rw[Xw (XC q h)];exact q
theorem Xp.own {H H2:Hp}{p:Addr}(s:Xp H H2)(h:H p=none)(o:HO):Xp H (upd H2 p o):=λb u q=>by rw[Xw (XC q h)];exact s b u q
theorem Xp.new {H H2:Hp}{p:Addr}(s:Xp H H2)(h:H2 p=none)(o:HO):Xp H (upd H2 p o):=s.trans (Zq h o)
theorem Xp.seqT {K:PySem.W.Frag}{H H':Hp}{a:Addr}{xs:List V}(e:Xp H H')(h:SqT K H a xs):SqT K H' a xs:=by
 rcases h with(h | ⟨o,h⟩) |h
 ·exact .inl (.inl (e _ _ h))
 ·exact .inl (.inr ⟨o,e _ _ h⟩)
 ·exact .inr h
theorem hu8 {A:Around}{k:Nat}(hr:Room k A):A.units+8<cLine:=Nat.lt_of_le_of_lt (Nat.add_le_add_left (by decide:8<=64) _) hr.units
noncomputable abbrev Enc (α:Type):=PySem.W.Frag->Hp->V->α->Prop
noncomputable def Xd:Enc Int:=λ_ _ v i=>v= .int i
noncomputable def rL {α:Type}(r:Enc α):Enc (List α):=λK H v as=>∃ a xs,v= .ref a/\SqL K H a xs/\Paired (r K H) xs as
noncomputable def rT2 {α β:Type}(r:Enc α)(q:Enc β):Enc (α×β):=λK H v p=>∃ a x y,v= .ref a/\SqT K H a [x,y]/\r K H x p.1/\q K H y p.2
theorem Paired.getL {α β:Type}{F:α->β->Prop}:∀{l:List α}{m:List β}{i:Nat}{a:α},Paired F l m->l[i]?=some a->∃b,m[i]?=some b/\F a b
 |_,_,_,_, .nil,e=>by simp at e
 |_,_,0,_, .cons r _,e=>by simp at e;subst e;exact⟨_,rfl,r⟩
 |_,_,i+1,a, .cons _ t,e=>by
  obtain⟨b,h1,h2⟩:=Paired.getL (i:=i) (a:=a) t (by simpa using e)
  exact⟨b,by simpa using h1,h2⟩
theorem Paired.getR {α β:Type}{F:α->β->Prop}:∀{l:List α}{m:List β}{i:Nat}{b:β},Paired F l m->m[i]?=some b->∃a,l[i]?=some a/\F a b
 |_,_,_,_, .nil,e=>by simp at e
 |_,_,0,_, .cons r _,e=>by simp at e;subst e;exact⟨_,rfl,r⟩
 |_,_,i+1,b, .cons _ t,e=>by
  obtain⟨a,h1,h2⟩:=Paired.getR (i:=i) (b:=b) t (by simpa using e)
  exact⟨a,by simpa using h1,h2⟩
theorem Paired.len {α β:Type}{F:α->β->Prop}{l:List α}{m:List β}(h:Paired F l m):l.length=m.length:=Paired.length h
theorem Paired.app {α β:Type}{F:α->β->Prop}:∀{l l':List α}{m m':List β},Paired F l m->Paired F l' m'->Paired F (l++l') (m++m'):=λp h=>by
 induction p with
 |nil=>exact h
 |cons r _ ih=>exact .cons r ih
theorem U5 (ns:List Int):∀{K:PySem.W.Frag}{H:Hp},Paired (Xd K H) (ns.map V.int) ns:=by
 intro K H
 induction ns with
 |nil=>exact .nil
 |cons n r ih=>exact .cons rfl ih
structure EqOk {α:Type}[DecidableEq α](r:Enc α)(d:Nat):Prop where
 uniq:∀{X:Cx}{pins:List (Addr×Obj)}{σ:St}{H:Hp}{s:Shared}{x:V}{a b:α},Inv X pins σ H s->r X.K H x a->r X.K H x b->a=b
 eq:∀{X:Cx}{pins:List (Addr×Obj)}{σ:St}{H:Hp}{s:Shared}{x y:V}{v u:Value}{a b:α}{A:Around},Inv X pins σ H s->X8 x v->X8 y u->r X.K H x a->r X.K H y b->A.units+d<cLine->SeqAt.EqAt A s v u (decide (a=b))
 rc:∀{X:Cx}{pins:List (Addr×Obj)}{σ:St}{H:Hp}{s:Shared}{x y:V}{v u:Value}{a b:α}{A:Around},Inv X pins σ H s->X8 x v->X8 y u->r X.K H x a->r X.K H y b->A.units+d<cLine->SeqAt.RcAt A s v u (decide (a=b))
 ne:∀{X:Cx}{pins:List (Addr×Obj)}{σ:St}{H:Hp}{s:Shared}{x y:V}{v u:Value}{a b:α}{A:Around},Inv X pins σ H s->X8 x v->X8 y u->r X.K H x a->r X.K H y b->A.units+d<cLine->SeqAt.RcNeAt A s v u (!decide (a=b))
 keep:∀{K:PySem.W.Frag}{H H':Hp}{x:V}{a:α},Xp H H'->r K H x a->r K H' x a
theorem EqOk.up {α:Type}[DecidableEq α]{r:Enc α}{d e:Nat}(E:EqOk r d)(h:d<=e):EqOk r e:=
 ⟨E.uniq,λI rx ry h1 h2 hu=>E.eq I rx ry h1 h2 (by omega),λI rx ry h1 h2 hu=>E.rc I rx ry h1 h2 (by omega),λI rx ry h1 h2 hu=>E.ne I rx ry h1 h2 (by omega),E.keep⟩
theorem Y6 (A:Around):A.in1.units=A.units+1:=rfl
theorem BN {a b:Int}:(a==b)=decide (a=b):=by rw[Bool.eq_iff_iff];simp
theorem eq_int:EqOk Xd 0 where
 uniq:=λ_ h1 h2=>by
  have h1':_=V.int _:=h1
  have h2':_=V.int _:=h2
  rw[h1'] at h2';injection h2'
 eq:=fun {X pins σ H s x y v u a b A} I rx ry h1 h2 _=>by
  have h1':x=V.int a:=h1
  have h2':y=V.int b:=h2
  subst h1' h2'
  obtain⟨t,rfl⟩:=rx
  obtain⟨t',rfl⟩:=ry
  rw[←BN];exact SeqAt.EqAt.int_int a t b t'
 rc:=fun {X pins σ H s x y v u a b A} I rx ry h1 h2 _=>by
  have h1':x=V.int a:=h1
  have h2':y=V.int b:=h2
  subst h1' h2'
  obtain⟨t,rfl⟩:=rx
  obtain⟨t',rfl⟩:=ry
  rw[←BN];exact SeqAt.RcAt.int_int a t b t'
 ne:=fun {X pins σ H s x y v u a b A} I rx ry h1 h2 _=>by
  have h1':x=V.int a:=h1
  have h2':y=V.int b:=h2
  subst h1' h2'
  obtain⟨t,rfl⟩:=rx
  obtain⟨t',rfl⟩:=ry
  rw[←BN];exact SeqAt.RcNeAt.int_int a t b t'
 keep:=λ_ h=>h
theorem FQ {α:Type}[DecidableEq α]{as bs:List α}(h:as.length=bs.length):(List.range as.length).all (λj=>decide (as[j]?=bs[j]?))=decide (as=bs):=by
 rw[Bool.eq_iff_iff]
 simp only[List.all_eq_true,List.mem_range,decide_eq_true_eq]
 constructor
 ·intro hh
  apply List.ext_getElem?
  intro i
  by_cases hi:i<as.length
  ·exact hh i hi
  ·rw[List.getElem?_eq_none (by omega),List.getElem?_eq_none (by omega)]
 ·rintro rfl;intros;rfl
theorem Paired.uniq {α β:Type}{F:α->β->Prop}(hu:∀a b c,F a b->F a c->b=c):∀{l:List α}{m m':List β},Paired F l m->Paired F l m'->m=m':=fun {l m m'} p=>by
 induction p generalizing m' with
 |nil=>intro q;cases q;rfl
 |cons r _ ih=>intro q;cases q with |cons r' t'=>rw[hu _ _ _ r r',ih t']
theorem Paired.imp2 {α β:Type}{F G:α->β->Prop}(h:∀a b,F a b->G a b):∀{l:List α}{m:List β},Paired F l m->Paired G l m:=λp=>by
 induction p with
 |nil=>exact .nil
 |cons r _ ih=>exact .cons (h _ _ r) ih
section
variable {α:Type}[DecidableEq α]{r:Enc α}{d:Nat}
theorem Vc (E:EqOk r d){X:Cx}{pins:List (Addr×Obj)}{σ:St}{H:Hp}{s:Shared}{A:Around}(I:Inv X pins σ H s)(hu:A.units+(d+1)<cLine){xs ys:List V}{as bs:List α}{its its2:List Value}
  (r1:XT xs its)(r2:XT ys its2)(p1:Paired (r X.K H) xs as)(p2:Paired (r X.K H) ys bs):
  ∀j (h1:j<its.toArray.size) (h2:j<its2.toArray.size),SeqAt.EqAt A.in1 s its.toArray[j] its2.toArray[j] (decide (as[j]?=bs[j]?)):=by
 intro j h1 h2
 have h1':j<its.length:=by simpa using h1
 have h2':j<its2.length:=by simpa using h2
 obtain⟨x,ex,rx⟩:=Paired.getR (i:=j) (b:=its[j]) r1 (by simp[h1'])
 obtain⟨y,ey,ry⟩:=Paired.getR (i:=j) (b:=its2[j]) r2 (by simp[h2'])
 obtain⟨a,ea,ra⟩:=Paired.getL p1 ex
 obtain⟨b,eb,rb⟩:=Paired.getL p2 ey
 have:=E.eq (A:=A.in1) I rx ry ra rb (by rw[Y6];omega)
 rw[ea,eb]
 simpa using this
theorem BV (E:EqOk r d):EqOk (rL r) (d+1):=by
 have un:∀{X:Cx}{pins:List (Addr×Obj)}{σ:St}{H:Hp}{s:Shared}{x:V}{a b:List α},Inv X pins σ H s->rL r X.K H x a->rL r X.K H x b->a=b:=by
  intro X pins σ H s x as bs I h1 h2
  obtain⟨a,xs,rfl,q1,p1⟩:=h1
  obtain⟨b,ys,e,q2,p2⟩:=h2
  cases e
  cases I.list_inj q1 q2
  exact Paired.uniq (F:=r X.K H) (λ_ _ _ z z'=>E.uniq I z z') p1 p2
 have rc:∀{X:Cx}{pins:List (Addr×Obj)}{σ:St}{H:Hp}{s:Shared}{x y:V}{v u:Value}{a b:List α}{A:Around},Inv X pins σ H s->X8 x v->X8 y u->rL r X.K H x a->rL r X.K H y b->A.units+(d+1)<cLine->SeqAt.RcAt A s v u (decide (a=b)):=by
  intro X pins σ H s x y v u as bs A I rx ry h1 h2 hu
  obtain⟨a,xs,rfl,q1,p1⟩:=h1
  obtain⟨b,ys,rfl,q2,p2⟩:=h2
  cases rx;cases ry
  obtain⟨its,r1,l1,_⟩:=I.list q1
  obtain⟨its2,r2,l2,_⟩:=I.list q2
  have n1:=r1.length
  have n2:=r2.length
  have m1:=Paired.len p1
  have m2:=Paired.len p2
  by_cases hl:as.length=bs.length
  ·have:=SeqAt.RcAt.lists (A:=A) (e:=λj=>decide (as[j]?=bs[j]?)) l1.isList l2.isList (by simp only[List.size_toArray];omega) (by omega) (Vc E I hu r1 r2 p1 p2)
   rw[show its.toArray.size=as.length by simp only[List.size_toArray];omega,FQ hl] at this
   exact this
  ·rw[decide_eq_false (λe=>hl (congrArg List.length e))]
   exact SeqAt.RcAt.lists_lengths l1.isList l2.isList (by simp only[List.size_toArray,bne_iff_ne];omega) (by omega)
 refine⟨un,?_,rc,?_,?_⟩
 ·intro X pins σ H s x y v u as bs A I rx ry h1 h2 hu
  obtain⟨a,xs,rfl,q1,p1⟩:=id h1
  obtain⟨b,ys,rfl,q2,p2⟩:=id h2
  have R:=rc (A:=A) I rx ry h1 h2 hu
  cases rx;cases ry
  by_cases e:a=b
  ·subst e
   rw[decide_eq_true (un I h1 h2)]
   exact SeqAt.EqAt.same _
  ·exact SeqAt.EqAt.of_refs e R
 ·intro X pins σ H s x y v u as bs A I rx ry h1 h2 hu
  obtain⟨a,xs,rfl,q1,p1⟩:=h1
  obtain⟨b,ys,rfl,q2,p2⟩:=h2
  cases rx;cases ry
  obtain⟨its,r1,l1,_⟩:=I.list q1
  obtain⟨its2,r2,l2,_⟩:=I.list q2
  have n1:=r1.length
  have n2:=r2.length
  have m1:=Paired.len p1
  have m2:=Paired.len p2
  by_cases hl:as.length=bs.length
  ·have:=SeqAt.RcNeAt.lists (A:=A) (e:=λj=>decide (as[j]?=bs[j]?)) l1.isList l2.isList (by simp only[List.size_toArray];omega) (by omega) (Vc E I hu r1 r2 p1 p2)
   rw[show its.toArray.size=as.length by simp only[List.size_toArray];omega,FQ hl] at this
   exact this
  ·rw[decide_eq_false (λe=>hl (congrArg List.length e))]
   exact SeqAt.RcNeAt.lists_lengths l1.isList l2.isList (by simp only[List.size_toArray,bne_iff_ne];omega) (by omega)
 ·intro K H H' x as e h
  obtain⟨a,xs,rfl,q1,p1⟩:=h
  exact⟨a,xs,rfl,e.seq q1,Paired.imp2 (λ_ _ z=>E.keep e z) p1⟩
end
section
variable {α β:Type}[DecidableEq α][DecidableEq β]{r:Enc α}{q:Enc β}{d:Nat}
theorem KI {a1 a2:α}{b1 b2:β}:(decide (a1=a2)&&decide (b1=b2))=decide ((a1,b1)=(a2,b2)):=by
 rw[Bool.eq_iff_iff];simp
theorem Ec (E:EqOk r d)(F:EqOk q d):EqOk (rT2 r q) (d+1):=by
 have un:∀{X:Cx}{pins:List (Addr×Obj)}{σ:St}{H:Hp}{s:Shared}{x:V}{a b:α×β},Inv X pins σ H s->rT2 r q X.K H x a->rT2 r q X.K H x b->a=b:=by
  rintro X pins σ H s x ⟨a1,a2⟩ ⟨b1,b2⟩ I h1 h2
  obtain⟨a,x1,x2,rfl,q1,p1,p2⟩:=h1
  obtain⟨b,y1,y2,e,q2,p3,p4⟩:=h2
  cases e
  cases I.tuple_inj q1 q2
  rw[show a1=b1 from E.uniq I p1 p3,show a2=b2 from F.uniq I p2 p4]
 have its:∀{X:Cx}{pins:List (Addr×Obj)}{σ:St}{H:Hp}{s:Shared}{x1 x2 y1 y2:V}{u1 u2 w1 w2:Value}{a b:α×β}{A:Around},Inv X pins σ H s->X8 x1 u1->X8 x2 u2->X8 y1 w1->X8 y2 w2->
   r X.K H x1 a.1->q X.K H x2 a.2->r X.K H y1 b.1->q X.K H y2 b.2->A.units+(d+1)<cLine->
   ∀j (h1:j< [u1,u2].toArray.size) (h2:j< [w1,w2].toArray.size),SeqAt.EqAt A.in1 s [u1,u2].toArray[j] [w1,w2].toArray[j] ((λj=>if j=0 then decide (a.1=b.1) else decide (a.2=b.2)) j):=by
  intro X pins σ H s x1 x2 y1 y2 u1 u2 w1 w2 a b A I e1 e2 e3 e4 p1 p2 p3 p4 hu j h1 h2
  have hj:j=0∨j=1:=by
   have h1':j<2:=h1
   omega
  rcases hj with rfl |rfl
  ·exact E.eq (A:=A.in1) I e1 e3 p1 p3 (by rw[Y6];omega)
  ·exact F.eq (A:=A.in1) I e2 e4 p2 p4 (by rw[Y6];omega)
 have rc:∀{X:Cx}{pins:List (Addr×Obj)}{σ:St}{H:Hp}{s:Shared}{x y:V}{v u:Value}{a b:α×β}{A:Around},Inv X pins σ H s->X8 x v->X8 y u->rT2 r q X.K H x a->rT2 r q X.K H y b->A.units+(d+1)<cLine->SeqAt.RcAt A s v u (decide (a=b)):=by
  rintro X pins σ H s x y v u ⟨a1,a2⟩ ⟨b1,b2⟩ A I rx ry h1 h2 hu
  obtain⟨a,x1,x2,rfl,q1,p1,p2⟩:=h1
  obtain⟨b,y1,y2,rfl,q2,p3,p4⟩:=h2
  cases rx;cases ry
  obtain⟨i1,r1,l1,_⟩:=I.tuple q1
  obtain⟨i2,r2,l2,_⟩:=I.tuple q2
  obtain⟨u1,u2,rfl,e1,e2⟩:=XT.two r1
  obtain⟨w1,w2,rfl,e3,e4⟩:=XT.two r2
  have:=SeqAt.RcAt.tuples (A:=A) l1 l2 (by omega) (its (a:=(a1,a2)) (b:=(b1,b2)) I e1 e2 e3 e4 p1 p2 p3 p4 hu)
  rw[←KI]
  simpa[List.range_succ] using this
 refine⟨un,?_,rc,?_,?_⟩
 ·intro X pins σ H s x y v u as bs A I rx ry h1 h2 hu
  obtain⟨a,x1,x2,rfl,q1,p1,p2⟩:=id h1
  obtain⟨b,y1,y2,rfl,q2,p3,p4⟩:=id h2
  have R:=rc (A:=A) I rx ry h1 h2 hu
  cases rx;cases ry
  by_cases e:a=b
  ·subst e
   rw[decide_eq_true (un I h1 h2)]
   exact SeqAt.EqAt.same _
  ·exact SeqAt.EqAt.of_refs e R
 ·rintro X pins σ H s x y v u ⟨a1,a2⟩ ⟨b1,b2⟩ A I rx ry h1 h2 hu
  obtain⟨a,x1,x2,rfl,q1,p1,p2⟩:=h1
  obtain⟨b,y1,y2,rfl,q2,p3,p4⟩:=h2
  cases rx;cases ry
  obtain⟨i1,r1,l1,_⟩:=I.tuple q1
  obtain⟨i2,r2,l2,_⟩:=I.tuple q2
  obtain⟨u1,u2,rfl,e1,e2⟩:=XT.two r1
  obtain⟨w1,w2,rfl,e3,e4⟩:=XT.two r2
  have:=SeqAt.RcNeAt.tuples (A:=A) l1 l2 (by omega) (its (a:=(a1,a2)) (b:=(b1,b2)) I e1 e2 e3 e4 p1 p2 p3 p4 hu)
  rw[←KI]
  simpa[List.range_succ] using this
 ·intro K H H' x as e h
  obtain⟨a,x1,x2,rfl,q1,p1,p2⟩:=h
  exact⟨a,x1,x2,rfl,e.seqT q1,E.keep e p1,F.keep e p2⟩
end
section
variable {X:Cx}{α:Type}[DecidableEq α]{r:Enc α}{d:Nat}
noncomputable def IR (K:PySem.W.Frag)(r:Enc α):R2:=λx y H Q=>∃ a b,r K H x a/\r K H y b/\Q (.bl (decide (a=b))) H
noncomputable def Ix (K:PySem.W.Frag)(r:Enc α):R2:=λx y H Q=>∃ a b,r K H x a/\r K H y b/\Q (.bl (!decide (a=b))) H
theorem G5 (E:EqOk r d)(hu:X.A.units+d<cLine):OpR X (compareOp .Eq) (IR X.K r):=by
 intro pins s σ H x y v u Q I rx ry h
 obtain⟨a,b,h1,h2,q⟩:=h
 exact E.rc (A:=X.A) I rx ry h1 h2 hu _ _ _ _ ⟨.bl _,H,I,rfl,q⟩
theorem K3 (E:EqOk r d)(hu:X.A.units+d<cLine):OpR X (compareOp .NotEq) (Ix X.K r):=by
 intro pins s σ H x y v u Q I rx ry h
 obtain⟨a,b,h1,h2,q⟩:=h
 exact E.ne (A:=X.A) I rx ry h1 h2 hu _ _ _ _ ⟨.bl _,H,I,rfl,q⟩
theorem Zg:ZJ X (.builtin "isinstance") (λxs H Q=>∃ x n t b,xs=[x, .ty n]/\TyOf X.K H x t/\PySem.W.kitOne X.K t (.type n)=some b/\Q (.bl b) H):=by
 intro pins s σ H xs us Q I r h
 obtain⟨x,n,t,b,rfl,ty,e,q⟩:=h
 obtain⟨u,v,rfl,ru,rv⟩:=XT.two r
 cases(show v=Value.type n from rv)
 exact GR I ru ty e λtk=>⟨.bl b,H,I.tok tk,rfl,q⟩
theorem VZ:OpR X (binaryOp .FloorDiv) (rI (λ_ j=>0<j/\j.natAbs.log2<9000) λi j=>.int (i/j)):=opI λi j _ _ _ _ _ hc q=>by
 refine floordiv_int (by omega) ?_ (.inl (PyProof.noPylong_of_log2 hc.2))
 rw[Int.fdiv_eq_ediv_of_nonneg i (by omega)]
 exact q
end
end L2
namespace PySem
open Sem (wp)
section
variable {prog:Program}{w:World}{A:Around}{E:Value->Shared->Prop}{s:Shared}
end
end PySem
namespace L2
open PySem PySem.Spec PyProof.Rows
theorem Da {α β:Type}{F:α->β->Prop}:∀{l:List α}{m:List β}{i:Nat}{b:β},Paired F l m->m[i]?=some b->∃a,l[i]?=some a/\F a b
 |_,_,_,_, .nil,e=>by simp at e
 |_,_,0,_, .cons r _,e=>by simp at e;subst e;exact⟨_,rfl,r⟩
 |_,_,i+1,b, .cons _ t,e=>by
  obtain⟨a,h1,h2⟩:=Da (i:=i) (b:=b) t (by simpa using e)
  exact⟨a,by simpa using h1,h2⟩
section
variable {X:Cx}{e:Expr}{te:TE}
end
section
variable {X:Cx}{pins:List (Addr×Obj)}{σ:St}{H:Hp}{s:Shared}{h':Heap}
end
section
variable {X:Cx}{elts:List Expr}{k:Nat}{pos0:Pos}
end
section
variable {X:Cx}
end
section
variable {α:Type}[DecidableEq α]{r:Enc α}{d:Nat}
end
section
variable {X:Cx}{o e f:Expr}{td ty tx:TE}{apos cpos:Pos}
end
section
variable {X:Cx}{elt tg iter:Expr}{ifs:List Expr}{scope sc:Scope}{pos:Pos}{n:Nat}{tns:List Str}{caps:List (Nat×Str)}{wi:TI}{g:TG}{tt:TT}{te:TE}
end
theorem Jm:∀(xs:List V) (us:List Value),xs.length=us.length->(∀(j:Nat) x u,xs[j]?=some x->us[j]?=some u->X8 x u)->XT xs us
 | [],[],_,_=>.nil
 | [],_::_,h,_=>by simp at h
 |_::_,[],h,_=>by simp at h
 |x::xs,u::us,h,r=>.cons (r 0 x u rfl rfl) (Jm xs us (by simpa using h) λj y v e1 e2=>r (j+1) y v (by simpa using e1) (by simpa using e2))
noncomputable def KU (ta:TA):TE:=λσ H Q=>ta σ H λvs H1=>∃ j:Int,vs=[.int j]/\0<=j/\j<=1000/\∀p,H1 p=none->Q (.ref p) (upd H1 p (.lst ((List.range j.toNat).map λi=>V.int ((i:Nat):Int))))
variable {X:Cx}
theorem UJ {e:Expr}{ta:TA}{p q q2 pos:Pos}(hc:X.calm=true)(hg:Gl X "list")(hg2:Gl X "range")(hm:X.mg "list" =none)(hm2:X.mg "range" =none)(ha:PA X [e] ta)
  (hs:starEach [.Call (.Name "range" q) [e] [] q2] X.env=[(false,eval (.Call (.Name "range" q) [e] [] q2) X.env)]:=by rfl)(hs2:starEach [e] X.env=[(false,eval e X.env)]:=by rfl):
  PE X (.Call (.Name "list" p) [.Call (.Name "range" q) [e] [] q2] [] pos) (KU ta):=by
 intro pins s σ H Q I h
 refine wpAny_Call_Name_kw (J1 I hg hm PyProof.Rows.boot_list ?_)
 refine PyProof.Rows.callWith_type1 ?_ hs rfl
 rw[hs]
 show wpAny _ _ (spliced ((false,eval (.Call (.Name "range" q) [e] [] q2) X.env)::backTo pos [])) _ _ s
 refine Calls.spliced_cons ?_
 refine wpAny_Call_Name_kw (J1 I hg2 hm2 boot_range ?_)
 refine PyProof.Rows.callWith_type1 (thn (ha q2 pins s σ H _ I h) λus s1 r9=>?_) hs2 rfl
 obtain⟨vs,H1,I1,r1,q1⟩:=r9
 obtain⟨j,e,h0,h1,k⟩:=q1
 subst e
 cases r1 with
 |cons r rr=>
  cases rr
  obtain⟨t,rfl⟩:=r
  refine call_range_1 ?_
  refine Calls.spliced_nil ?_
  refine call_list_range (n:=j.toNat) (I.ok.hd hc) (IsRange.new ..) (small_one (by omega) (by omega) (by omega) (by omega)) (by rw[rangeSize_one];split<;> omega) (by omega) λh' tk acc' c' hk hS hacc=>?_
  refine⟨.ref _,_,I1.laid (h':=h') (t':=tk) (o:=.lst ((List.range j.toNat).map λi=>V.int ((i:Nat):Int))) (λb o e=>hk b o (Heap.get?_push_of_some _ e)) (by rw[Heap.size_push];exact Nat.le_succ _) ?_,rfl,k _ (I1.hok.fresh (by rw[Heap.size_push];exact Nat.le_succ _))⟩
  refine⟨by rw[List.length_map,List.length_range];exact Nat.le_of_lt (FX (by omega)),acc'.toList,c',Jm _ _ (by simp[hacc.1]) λi x u e1 e2=>?_,hS⟩
  have e2':acc'[i]?=some u:=by simpa using e2
  obtain⟨tk,rfl⟩:=hacc.2 i u e2'
  rw[List.getElem?_map] at e1
  cases e3:(List.range j.toNat)[i]? with
  |none=>rw[e3] at e1;cases e1
  |some z=>
   rw[e3] at e1
   have hz:z=i:=by
    have hi:i<j.toNat:=by have:=(List.getElem?_eq_some_iff.mp e3).1;simpa using this
    rw[List.getElem?_range hi] at e3
    exact(Option.some.inj e3).symm
   subst hz
   have:x=V.int (z:Int):=(Option.some.inj e1).symm
   subst this
   exact⟨tk,by simp⟩
theorem Qb {l:List Expr}{p:Pos}{es:List Expr}{env:Env}:starEach (.List l p::es) env=(false,eval (.List l p) env)::starEach es env:=rfl
theorem VS {X:Cx}{l:List Expr}{p:Pos}{es:List Expr}{te:TE}{t:TA}(ha:PE X (.List l p) te)(hr:PA X es t):PA X (.List l p::es) (XA te t):=Xc ha hr Qb
variable {X:Cx}{o e:Expr}{es:List Expr}{to:TE}{t:TA}{name:Str}{apos cpos:Pos}{T id:String}{r:V->List V->Hp->VK->Prop}
theorem HE (K:PySem.W.Frag)(hK:X.K=K)(pa:PlainAttrs T)(slot:Slot T name id)(hty:typeOf (.builtin id)=pure (.type "method_descriptor"))(hm:MtR X id r)(ho:PE X o to)(ha:PA X (e::es) t)
  (hbase:attributeBase o name X.env (eval o X.env)=eval o X.env:=by rfl)
  (hfew:((backTo cpos (starEach (e::es) X.env)).all (λx=>!x.1)&&(backToKw cpos (keywordEach [] X.env)).all (λx=>x.1.isSome)
   &&decide ((e::es).length+([]:List Keyword).length+(if([]:List Keyword).isEmpty then 0 else 1)<30))=true:=by rfl)
  (hline:(apos.endLine==cpos.line)=true:=by rfl)(hs:starEach (e::es) X.env=(false,eval e X.env)::starEach es X.env:=by rfl)(hplain:(backTo cpos (starEach es X.env)).any (·.1)=false:=by rfl):
  PE X (.Call (.Attribute o name apos) (e::es) [] cpos) (tBM K T r to t):=by
 subst hK
 exact Z9 pa slot hty hm ho ha hbase hfew hline hs hplain
end L2
namespace PySem
open PySem.Spec
namespace SeqAt
open MeetsSeq
end SeqAt
end PySem
namespace L2
open PySem PySem.Spec PyProof.Rows
section
variable {X:Cx}
end
noncomputable def Iz (K:PySem.W.Frag):List V->Hp->VK->Prop:=λxs H Q=>∃ (a:Addr) (bs:List Bool),xs=[.ref a]/\SqL K H a (bs.map V.bl)/\Q (.bl (bs.all id)) H
section
variable {X:Cx}
theorem Hb:∀(bs:List Bool),((List.range bs.length).all λi=>(bs[i]?).getD true)=bs.all id:=λbs=>by
 rw[Bool.eq_iff_iff,List.all_eq_true,List.all_eq_true]
 constructor
 ·intro h b hb
  obtain⟨i,hi,rfl⟩:=List.getElem_of_mem hb
  have:=h i (List.mem_range.mpr hi)
  simpa[List.getElem?_eq_getElem hi] using this
 ·intro h i hi
  have hi':=List.mem_range.mp hi
  simpa[List.getElem?_eq_getElem hi'] using h _ (List.getElem_mem hi')
theorem Uu (hc:X.calm=true):ZJ X (.builtin "all") (Iz X.K):=by
 intro pins s σ H xs us Q I r h
 obtain⟨a,bs,rfl,hq,q⟩:=h
 obtain⟨u,rfl,ru⟩:=Kb r
 cases ru
 obtain⟨its,rv,pl,hz⟩:=I.list hq
 have hlen:bs.length=its.length:=by have:=rv.length;rwa [List.length_map] at this
 have hlt:a<s.heap.objs.size:=by obtain⟨o,n,ho,_⟩:=pl;exact Heap.lt_size ho
 refine call_all_walk (wpAny_pyIter_list pl.isList ?_)
 refine⟨s.heap.objs.size,[s.heap.objs.size,a],[s.heap.objs.size],its.toArray.size,_,_,λi=>(bs[i]?).getD true,rfl,Walks.list (A:=X.A.in1) (I.ok.hd hc) _ a (Nat.ne_of_lt hlt) its.toArray,
  ⟨⟨_,Heap.get?_push_size _ rfl,rfl,rfl⟩,pl.isList.at λo e=>Heap.get?_push_of_some _ e⟩,λi v s' Q' E' hP hQ=>?_,λh' tk hk=>?_⟩
 ·have hv':its[i]?=some v:=by simpa using hP
  obtain⟨x,ex,rx⟩:=Da rv hv'
  rw[List.getElem?_map] at ex
  cases e:bs[i]? with
  |none=>rw[e] at ex;cases ex
  |some z=>
   rw[e] at ex
   have ex':V.bl z=x:=Option.some.inj ex
   subst ex'
   cases rx
   simp only[e,Option.getD_some] at hQ
   exact wpAny_truthy_bool hQ
 ·have e:((List.range its.toArray.size).all λi=>(bs[i]?).getD true)=bs.all id:=by
   rw[List.size_toArray, ←hlen];exact Hb bs
  rw[e]
  have I2:Inv X pins σ H {s with heap:=h',toks:=tk}:=I.kept (t':=tk) λb o e=>hk b o (λhm=>by
   rw[List.mem_singleton.mp hm] at e
   exact absurd (Heap.lt_size e) (Nat.lt_irrefl _)) (Heap.get?_push_of_some _ e)
  exact⟨.bl (bs.all id),H,I2,rfl,q⟩
end
section
variable {X:Cx}{α:Type}[DecidableEq α]{r:Enc α}{d:Nat}
end
section
variable {X:Cx}
end
section
variable {X:Cx}
variable {T:String}{name:Str}{id:String}{r:V->List V->Hp->VK->Prop}{o e:Expr}{es:List Expr}{to:TE}{t:TA}{apos cpos:Pos}
theorem JP {K:PySem.W.Frag}(hK:X.K=K)(pa:PlainAttrs T)(slot:Slot T name id)(hty:typeOf (.builtin id)=pure (.type "method_descriptor"))(hm:MtR X id r)(ho:PE X o to)(ha:PA X (e::es) t)
  (hbase:attributeBase o name X.env (eval o X.env)=eval o X.env:=by rfl)
  (hfew:((backTo cpos (starEach (e::es) X.env)).all (λx=>!x.1)&&(backToKw cpos (keywordEach [] X.env)).all (λx=>x.1.isSome)
   &&decide ((e::es).length+([]:List Keyword).length+(if([]:List Keyword).isEmpty then 0 else 1)<30))=true:=by rfl)
  (hline:(apos.endLine==cpos.line)=true:=by rfl)(hs:starEach (e::es) X.env=(false,eval e X.env)::starEach es X.env:=by rfl)(hplain:(backTo cpos (starEach es X.env)).any (·.1)=false:=by rfl):
  PE X (.Call (.Attribute o name apos) (e::es) [] cpos) (tBM K T r to t):=HE K hK pa slot hty hm ho ha hbase hfew hline hs hplain
end
section
variable {X:Cx}{elt tg iter:Expr}{ifs:List Expr}{scope:Scope}{pos:Pos}{wi:TI}{g:TG}{tt:TT}{te:TE}
theorem Y0 {sc:Scope}{N0:List Str}{tns:List Str}{caps:List (Nat×Str)}(hc:X.calm=true)(hi:PI X tg iter wi)(hG:VA tns.length g)
  (hb:∀cl C s H ex E,PG (X.comp (tns++caps.map (·.2)) scope cl C s H ex E) tg g/\PTs (X.comp (tns++caps.map (·.2)) scope cl C s H ex E) ifs tt/\PE (X.comp (tns++caps.map (·.2)) scope cl C s H ex E) elt te)
  (hsc:X.env.scope=sc:=by rfl)(hN0:X.N=N0:=by rfl)(ok:JT sc scope N0 tns caps=true:=by decide+kernel)
  (hs:∀x,foldedSetIterable iter X.env x=pure x:=by intro _;rfl):
  PE X (.ListComp elt [⟨tg,iter,ifs,0⟩] scope pos) (Gv tns.length caps wi g tt te):=BM sc N0 tns caps hc hi hG hb hsc hN0 ok hs
end
section
variable {X:Cx}{tg l:Expr}{tl:TE}{p pos:Pos}{K:PySem.W.Frag}
theorem XQ (h:X.K=K)(hl:PE X l tl):PI X tg l (Ci K tl):=by subst h;exact ED hl
end
section
variable {X:Cx}
end
inductive Pay where
 |non |int (i:Int) |tag (t:Str) (xs:List Int)
 deriving DecidableEq
structure Exc where
 cls:Str
 pay:Pay
inductive Rs (α:Type) where
 |bad |err (x:Exc) |ok (a:α)
noncomputable def Rs.bind {α β:Type}:Rs α->(α->Rs β)->Rs β
 | .bad,_=>.bad
 | .err x,_=>.err x
 | .ok a,f=>f a
theorem Rs.ok_bind {α β:Type}(a:α)(f:α->Rs β):(Rs.ok a).bind f=f a:=rfl
noncomputable def chk {α:Type}(c:Prop)[Decidable c](m:Rs α):Rs α:=if c then m else .bad
theorem Xq {α:Type}{c:Prop}[Decidable c]{m:Rs α}(h:c):chk c m=m:=if_pos h
noncomputable abbrev Xr:=Addr×HO
noncomputable def EI:HO->Bool
 | .lst _=>true
 | .dK _=>true
 | .dT _=>true
 |_=>false
noncomputable def fl (OO:List (List Xr)):List Addr:=OO.flatten.map (·.1)
open Classical in
noncomputable def hid (H:Hp)(OO:List (List Xr)):Hp:=λb=>if b∈fl OO then none else H b
structure W (OO:List (List Xr))(H:Hp):Prop where
 tr:∀c∈OO.flatten,H c.1=some c.2
 nd:(fl OO).Nodup
 mu:∀c∈OO.flatten,EI c.2=true
theorem XW {H:Hp}{OO}{b:Addr}{o:HO}(h:hid H OO b=some o):H b=some o/\b∉fl OO:=by
 unfold hid at h
 split at h
 ·cases h
 ·exact⟨h,by assumption⟩
theorem Zm {H:Hp}{OO}{b:Addr}{o:HO}(h:H b=some o)(n:b∉fl OO):hid H OO b=some o:=by
 unfold hid;rw[if_neg n];exact h
theorem XD {H:Hp}{OO}:Xp (hid H OO) H:=λb o h=>(XW h).1
theorem Xj {H H':Hp}{OO}(s:Xp H H'):Xp (hid H OO) (hid H' OO):=λb o h=>Zm (s _ _ (XW h).1) (XW h).2
theorem Vm {H H':Hp}{OO OO'}(s:Xp H H')(h:∀b,b∈fl OO'->b∈fl OO):Xp (hid H OO) (hid H' OO'):=λb o q=>Zm (s _ _ (XW q).1) λz=>(XW q).2 (h b z)
theorem X6 {C:List Xr}{OO}:fl (C::OO)=C.map (·.1)++fl OO:=by simp[fl]
theorem Fq {OO}:fl ([]::OO)=fl OO:=by simp[fl]
theorem Zh {H:Hp}{OO}:hid H ([]::OO)=hid H OO:=by unfold hid;rw[Fq]
theorem W.keep {OO}{H H':Hp}(w:W OO H)(s:Xp H H'):W OO H':=⟨λc hc=>s _ _ (w.tr c hc),w.nd,w.mu⟩
theorem W.of {OO OO':List (List Xr)}{H:Hp}(w:W OO H)(h:OO'.flatten.Perm OO.flatten):W OO' H:=
 ⟨λc hc=>w.tr c (h.mem_iff.mp hc),(h.map _).nodup_iff.mpr w.nd,λc hc=>w.mu c (h.mem_iff.mp hc)⟩
theorem W.sub {OO OO':List (List Xr)}{H:Hp}(w:W OO H)(h:OO'.flatten.Sublist OO.flatten):W OO' H:=
 ⟨λc hc=>w.tr c (h.mem hc),(h.map _).nodup w.nd,λc hc=>w.mu c (h.mem hc)⟩
theorem W.tail {C OO}{H:Hp}(w:W (C::OO) H):W OO H:=w.sub (by simp)
theorem W.nil {OO}{H:Hp}(w:W OO H):W ([]::OO) H:=w.of (by simp)
theorem W.cell {C OO}{H:Hp}(w:W (C::OO) H):∀c∈C,H c.1=some c.2:=λc hc=>w.tr c (by simp[hc])
theorem JU {OO:List (List Xr)}{c:Xr}(h:c∈OO.flatten):c.1∈fl OO:=List.mem_map.mpr ⟨c,h,rfl⟩
theorem GM {OO:List (List Xr)}{b:Addr}(h:b∈fl OO):∃o,(b,o)∈OO.flatten:=by
 obtain⟨⟨a,o⟩,hc,rfl⟩:=List.mem_map.mp h
 exact⟨o,hc⟩
theorem W.fresh {OO}{H:Hp}(w:W OO H){p:Addr}(h:H p=none):p∉fl OO:=λz=>by
 obtain⟨o,ho⟩:=GM z
 have:=w.tr _ ho
 rw[h] at this;cases this
theorem W.new {OO}{H:Hp}(w:W OO H){p:Addr}(h:H p=none){o:HO}(m:EI o=true):W ([(p,o)]::OO) (upd H p o):=by
 have hf:=w.fresh h
 refine⟨λc hc=>?_,?_,λc hc=>?_⟩
 ·simp only[List.flatten_cons,List.cons_append,List.nil_append,List.mem_cons] at hc
  rcases hc with rfl |hc
  ·exact Yf
  ·rw[Xw (λe=>hf (by rw[←e];exact JU hc))];exact w.tr c hc
 ·rw[X6];simpa using ⟨hf,w.nd⟩
 ·simp only[List.flatten_cons,List.cons_append,List.nil_append,List.mem_cons] at hc
  rcases hc with rfl |hc
  ·exact m
  ·exact w.mu c hc
theorem Kh {OO}{H:Hp}{p:Addr}(h:H p=none){o:HO}:Xp (hid H OO) (hid (upd H p o) ([(p,o)]::OO)):=λb u q=>by
 obtain⟨q1,q2⟩:=XW q
 have hb:b≠p:=XC q1 h
 refine Zm (by rw[Xw hb];exact q1) ?_
 rw[X6];simpa using ⟨hb,q2⟩
theorem KL {OO}{H:Hp}(w:W OO H){p:Addr}(h:H p=none){o:HO}:hid (upd H p o) OO p=some o:=Zm Yf (w.fresh h)
class MonoE {α:Type}(r:Enc α):Prop where
 mono:∀{K:PySem.W.Frag}{H H':Hp}{v:V}{a:α},Xp H H'->r K H v a->r K H' v a
noncomputable def Iv:HO->Bool
 | .tup _=>true
 | .frz _ _=>true
 |_=>false
noncomputable def QP (H H':Hp):Prop:=∀ b o,H b=some o->Iv o=true->H' b=some o
theorem Xp.i {H H':Hp}(s:Xp H H'):QP H H':=λb o h _=>s b o h
theorem W.i {OO}{H:Hp}(w:W OO H):QP H (hid H OO):=λb o h i=>Zm h λz=>by
 obtain⟨u,hu⟩:=GM z
 have h1:=w.tr _ hu
 have h2:=w.mu _ hu
 rw[h] at h1
 have e:o=u:=Option.some.inj h1
 subst e
 revert i h2;cases o<;> simp[Iv,EI]
theorem QP.trans {H H1 H2:Hp}(a:QP H H1)(b:QP H1 H2):QP H H2:=λc o h i=>b c o (a c o h i) i
class FlatE {α:Type}(r:Enc α):Prop where
 flat:∀{K:PySem.W.Frag}{H H':Hp}{v:V}{a:α},QP H H'->r K H v a->r K H' v a
instance {α:Type}{r:Enc α}[f:FlatE r]:MonoE r:=⟨λs h=>f.flat s.i h⟩
theorem QP.seqT {K:PySem.W.Frag}{H H':Hp}{a:Addr}{xs:List V}(e:QP H H')(h:SqT K H a xs):SqT K H' a xs:=by
 rcases h with(h | ⟨o,h⟩) |h
 ·exact .inl (.inl (e _ _ h rfl))
 ·exact .inl (.inr ⟨o,e _ _ h rfl⟩)
 ·exact .inr h
noncomputable def Xz:Enc Bool:=λ_ _ v b=>v= .bl b
noncomputable def XG:Enc Str:=λ_ _ v x=>v= .str x
noncomputable def rV {α:Type}(r:Enc α):Enc (List α):=λK H v as=>∃ a xs,v= .ref a/\H a=some (.lst xs)/\Paired (r K H) xs as
noncomputable def rPL {α:Type}(r:Enc α):Enc (List α):=λK H v as=>∃ a xs,v= .ref a/\H a=some (.tup xs)/\Paired (r K H) xs as
noncomputable def rP2 {α β:Type}(r:Enc α)(q:Enc β):Enc (α×β):=λK H v p=>∃ a x y,v= .ref a/\H a=some (.tup [x,y])/\r K H x p.1/\q K H y p.2
noncomputable def rP3 {α β γ:Type}(r:Enc α)(q:Enc β)(t:Enc γ):Enc (α×β×γ):=λK H v p=>∃ a x y z,v= .ref a/\H a=some (.tup [x,y,z])/\r K H x p.1/\q K H y p.2.1/\t K H z p.2.2
instance {α:Type}{r:Enc α}[m:MonoE r]:MonoE (rV r):=⟨λs r9=>by obtain⟨a,xs,e,q,p⟩:=r9;exact⟨a,xs,e,s _ _ q,Paired.imp2 (λ_ _ z=>m.mono s z) p⟩⟩
instance {α:Type}{r:Enc α}[m:MonoE r]:MonoE (rPL r):=⟨λs r9=>by obtain⟨a,xs,e,q,p⟩:=r9;exact⟨a,xs,e,s _ _ q,Paired.imp2 (λ_ _ z=>m.mono s z) p⟩⟩
instance {α:Type}{r:Enc α}[m:FlatE r]:FlatE (rPL r):=⟨λs r9=>by obtain⟨a,xs,e,q,p⟩:=r9;exact⟨a,xs,e,s _ _ q rfl,Paired.imp2 (λ_ _ z=>m.flat s z) p⟩⟩
instance {α β:Type}{r:Enc α}{q:Enc β}[m:MonoE r][n:MonoE q]:MonoE (rP2 r q):=⟨λs r9=>by obtain⟨a,x,y,e,h,p1,p2⟩:=r9;exact⟨a,x,y,e,s _ _ h,m.mono s p1,n.mono s p2⟩⟩
instance {α β:Type}{r:Enc α}{q:Enc β}[m:FlatE r][n:FlatE q]:FlatE (rP2 r q):=⟨λs r9=>by obtain⟨a,x,y,e,h,p1,p2⟩:=r9;exact⟨a,x,y,e,s _ _ h rfl,m.flat s p1,n.flat s p2⟩⟩
instance {α β γ:Type}{r:Enc α}{q:Enc β}{t:Enc γ}[m:MonoE r][n:MonoE q][k:MonoE t]:MonoE (rP3 r q t):=⟨λs r9=>by obtain⟨a,x,y,z,e,h,p1,p2,p3⟩:=r9;exact⟨a,x,y,z,e,s _ _ h,m.mono s p1,n.mono s p2,k.mono s p3⟩⟩
instance {α β γ:Type}{r:Enc α}{q:Enc β}{t:Enc γ}[m:FlatE r][n:FlatE q][k:FlatE t]:FlatE (rP3 r q t):=⟨λs r9=>by obtain⟨a,x,y,z,e,h,p1,p2,p3⟩:=r9;exact⟨a,x,y,z,e,s _ _ h rfl,m.flat s p1,n.flat s p2,k.flat s p3⟩⟩
instance:FlatE Xd:=⟨λ_ h=>h⟩
instance:FlatE Xz:=⟨λ_ h=>h⟩
instance:FlatE XG:=⟨λ_ h=>h⟩
instance {α:Type}{r:Enc α}[m:MonoE r]:MonoE (rL r):=⟨λs r9=>by obtain⟨a,xs,e,q,p⟩:=r9;exact⟨a,xs,e,s.seq q,Paired.imp2 (λ_ _ z=>m.mono s z) p⟩⟩
noncomputable abbrev OE (α:Type):=PySem.W.Frag->Hp->V->α->List Xr->Prop
inductive P3 {α β γ:Type}(F:α->β->γ->Prop):List α->List β->List γ->Prop where
 |nil:P3 F [] [] []
 |cons {a b c l m n}:F a b c->P3 F l m n->P3 F (a::l) (b::m) (c::n)
noncomputable def oF {α:Type}(r:Enc α):OE α:=λK h v a C=>C=[]/\r K h v a
noncomputable def oL {α:Type}(o:OE α):OE (List α):=λK h v as C=>∃ p xs Cs,v= .ref p/\P3 (o K h) xs as Cs/\C=(p, .lst xs)::Cs.flatten
noncomputable def oT2 {α β:Type}(o:OE α)(q:OE β):OE (α×β):=λK h v a C=>∃ p x y C1 C2,v= .ref p/\h p=some (.tup [x,y])/\o K h x a.1 C1/\q K h y a.2 C2/\C=C1++C2
section
variable {α β γ δ:Type}
theorem P3.imp {F G:α->β->γ->Prop}(h:∀a b c,F a b c->G a b c):∀{l m n},P3 F l m n->P3 G l m n:=λp=>by
 induction p with
 |nil=>exact .nil
 |cons r _ ih=>exact .cons (h _ _ _ r) ih
theorem P3.app {F:α->β->γ->Prop}:∀{l m n l' m' n'},P3 F l m n->P3 F l' m' n'->P3 F (l++l') (m++m') (n++n'):=λp h=>by
 induction p with
 |nil=>exact h
 |cons r _ ih=>exact .cons r ih
theorem P3.snoc {F:α->β->γ->Prop}{l m n a b c}(h:P3 F l m n)(r:F a b c):P3 F (l++[a]) (m++[b]) (n++[c]):=h.app (.cons r .nil)
theorem P3.len {F:α->β->γ->Prop}:∀{l m n},P3 F l m n->l.length=m.length/\n.length=m.length:=λp=>by
 induction p with
 |nil=>exact⟨rfl,rfl⟩
 |cons _ _ ih=>exact⟨congrArg Nat.succ ih.1,congrArg Nat.succ ih.2⟩
theorem P3.pair {F:α->β->γ->Prop}{G:α->β->Prop}:∀{l m n},P3 F l m n->(∀a b c,c∈n->F a b c->G a b)->Paired G l m:=λp h=>by
 induction p with
 |nil=>exact .nil
 |cons r _ ih=>exact .cons (h _ _ _ List.mem_cons_self r) (ih λa b c hc=>h a b c (List.mem_cons_of_mem _ hc))
theorem P3.get {F:α->β->γ->Prop}:∀{l m n}{i:Nat}{b:β},P3 F l m n->m[i]?=some b->∃a c,l[i]?=some a/\n[i]?=some c/\F a b c
 |_,_,_,_,_, .nil,e=>by simp at e
 |_,_,_,0,_, .cons r _,e=>by simp at e;subst e;exact⟨_,_,rfl,rfl,r⟩
 |_,_,_,i+1,b, .cons _ t,e=>by
  obtain⟨a,c,h1,h2,h3⟩:=P3.get (i:=i) (b:=b) t (by simpa using e)
  exact⟨a,c,by simpa using h1,by simpa using h2,h3⟩
theorem P3.set {F:α->β->γ->Prop}{a:α}{b:β}{c:γ}(r:F a b c):∀{l m n} (i:Nat),P3 F l m n->P3 F (l.set i a) (m.set i b) (n.set i c)
 |_,_,_,_, .nil=>.nil
 |_,_,_,0, .cons _ t=>.cons r t
 |_,_,_,i+1, .cons q t=>.cons q (P3.set r i t)
theorem P3.flat {F:α->β->Prop}:∀{l:List α}{m:List β}{n:List (List Xr)},P3 (λa b c=>c=[]/\F a b) l m n->Paired F l m/\n.flatten=[]:=λp=>by
 induction p with
 |nil=>exact⟨.nil,rfl⟩
 |cons r _ ih=>exact⟨.cons r.2 ih.1,by rw[List.flatten_cons,r.1,ih.2];rfl⟩
theorem P3.of {F:α->β->Prop}:∀{l:List α}{m:List β},Paired F l m->P3 (λa b (c:List Xr)=>c=[]/\F a b) l m (List.replicate m.length [])
 |_,_, .nil=>.nil
 |_,_, .cons r t=>.cons ⟨rfl,r⟩ (P3.of t)
theorem Yk:∀n:Nat,(List.replicate n ([]:List Xr)).flatten=[]
 |0=>rfl
 |n+1=>by simp[List.replicate_succ,Yk n]
end
class MonoO {α:Type}(o:OE α):Prop where
 mono:∀{K:PySem.W.Frag}{H H':Hp}{v:V}{a:α}{C:List Xr},Xp H H'->o K H v a C->o K H' v a C
class FlatO {α:Type}(o:OE α):Prop where
 flat:∀{K:PySem.W.Frag}{H H':Hp}{v:V}{a:α}{C:List Xr},QP H H'->o K H v a C->o K H' v a C
class FrzC {α:Type}(o:OE α)(r:outParam (Enc α)):Prop where
 frz:∀{K:PySem.W.Frag}{H H':Hp}{v:V}{a:α}{C:List Xr},o K H v a C->Xp H H'->(∀c∈C,H' c.1=some c.2)->r K H' v a
instance {α:Type}{r:Enc α}[m:MonoE r]:MonoO (oF r):=⟨λs h=>⟨h.1,m.mono s h.2⟩⟩
instance {α:Type}{r:Enc α}[m:FlatE r]:FlatO (oF r):=⟨λs h=>⟨h.1,m.flat s h.2⟩⟩
instance {α:Type}{r:Enc α}[m:MonoE r]:FrzC (oF r) r:=⟨λh s _=>m.mono s h.2⟩
instance {α:Type}{o:OE α}[m:MonoO o]:MonoO (oL o):=⟨λs r9=>by obtain⟨p,xs,Cs,e,q,c⟩:=r9;exact⟨p,xs,Cs,e,q.imp λ_ _ _ z=>m.mono s z,c⟩⟩
instance {α:Type}{o:OE α}[m:FlatO o]:FlatO (oL o):=⟨λs r9=>by obtain⟨p,xs,Cs,e,q,c⟩:=r9;exact⟨p,xs,Cs,e,q.imp λ_ _ _ z=>m.flat s z,c⟩⟩
instance {α:Type}{o:OE α}{r:Enc α}[m:FrzC o r]:FrzC (oL o) (rV r):=⟨λ⟨p,xs,Cs,e,q,c⟩ s hc=>by
 subst c
 exact⟨p,xs,e,hc _ List.mem_cons_self,q.pair λa b c hm z=>m.frz z s λx hx=>hc x (List.mem_cons_of_mem _ (List.mem_flatten.mpr ⟨c,hm,hx⟩))⟩⟩
instance {α β:Type}{o:OE α}{q:OE β}[m:MonoO o][n:MonoO q]:MonoO (oT2 o q):=⟨λs r9=>by obtain⟨p,x,y,C1,C2,e,h,h1,h2,c⟩:=r9;exact⟨p,x,y,C1,C2,e,s _ _ h,m.mono s h1,n.mono s h2,c⟩⟩
instance {α β:Type}{o:OE α}{q:OE β}[m:FlatO o][n:FlatO q]:FlatO (oT2 o q):=⟨λs r9=>by obtain⟨p,x,y,C1,C2,e,h,h1,h2,c⟩:=r9;exact⟨p,x,y,C1,C2,e,s _ _ h rfl,m.flat s h1,n.flat s h2,c⟩⟩
instance {α β:Type}{o:OE α}{q:OE β}{r:Enc α}{t:Enc β}[m:FrzC o r][n:FrzC q t]:FrzC (oT2 o q) (rP2 r t):=⟨λ⟨p,x,y,C1,C2,e,h,h1,h2,c⟩ s hc=>by
 subst c
 exact⟨p,x,y,e,s _ _ h,m.frz h1 s λc hm=>hc c (by simp[hm]),n.frz h2 s λc hm=>hc c (by simp[hm])⟩⟩
structure SC where
 p:Hp->Prop
 mono:∀h h',Xp h h'->p h->p h'
noncomputable def SC.nil:SC:=⟨λ_=>True,λ_ _ _ _=>True.intro⟩
noncomputable def SC.and (S T:SC):SC:=⟨λh=>S.p h/\T.p h,λ_ _ s q=>⟨S.mono _ _ s q.1,T.mono _ _ s q.2⟩⟩
noncomputable def SC.one {α:Type}(K:PySem.W.Frag)(r:Enc α)[m:MonoE r](v:V)(a:α):SC:=⟨λh=>r K h v a,λ_ _ s q=>m.mono s q⟩
noncomputable def SC.oneO {α:Type}(K:PySem.W.Frag)(o:OE α)[m:MonoO o](v:V)(a:α)(C:List Xr):SC:=⟨λh=>o K h v a C,λ_ _ s q=>m.mono s q⟩
noncomputable abbrev SC.add {α:Type}(S:SC)(K:PySem.W.Frag)(r:Enc α)[m:MonoE r](v:V)(a:α):SC:=S.and (SC.one K r v a)
noncomputable abbrev SC.addO {α:Type}(S:SC)(K:PySem.W.Frag)(o:OE α)[m:MonoO o](v:V)(a:α)(C:List Xr):SC:=S.and (SC.oneO K o v a C)
theorem SC.l {S T:SC}{h:Hp}(q:(S.and T).p h):S.p h:=q.1
theorem SC.r {S T:SC}{h:Hp}(q:(S.and T).p h):T.p h:=q.2
theorem SC.i {S T:SC}{h:Hp}(q:S.p h)(p:T.p h):(S.and T).p h:=⟨q,p⟩
theorem SC.t {h:Hp}:SC.nil.p h:=True.intro
theorem SC.p.l {S T:SC}{h:Hp}(q:(S.and T).p h):S.p h:=q.1
theorem SC.p.r {S T:SC}{h:Hp}(q:(S.and T).p h):T.p h:=q.2
noncomputable def PZ {β:Type}(Er:Exc->Hp->Prop)(F:β->Hp->Prop)(H:Hp)(m:Rs β):Prop:=
 match m with
 | .bad=>False
 | .err x=>∀ H',Xp H H'->Er x H'
 | .ok b=>F b H
section
variable (K:PySem.W.Frag)(Er:Exc->Hp->Prop)(S:SC)(OO OO':List (List Xr))(σ:St)
noncomputable def FB {α:Type}(r:Enc α)(Q:VK)(a:α)(H:Hp):Prop:=∀ v H',Xp H H'->r K H' v a->Q v H'
noncomputable def FO {α:Type}(o:OE α)(Q:VK)(a:α)(H:Hp):Prop:=∀ v C H',Xp H H'->W (C::OO') H'->Xp (hid H OO) (hid H' (C::OO'))->o K (hid H' (C::OO')) v a C->Q v H'
noncomputable def FT (Q:Bool->Hp->Prop)(b:Bool)(H:Hp):Prop:=∀ H',Xp H H'->Q b H'
noncomputable def EvB {α:Type}(te:TE)(r:Enc α)(m:Rs α):Prop:=∀ H Q,W OO H->S.p (hid H OO)->PZ Er (FB K r Q) H m->te σ H Q
noncomputable def Ev {α:Type}(te:TE)(o:OE α)(m:Rs α):Prop:=∀ H Q,W OO H->S.p (hid H OO)->PZ Er (FO K OO OO' o Q) H m->te σ H Q
noncomputable def EvT (tt:TT)(m:Rs Bool):Prop:=∀ H Q,W OO H->S.p (hid H OO)->PZ Er (FT Q) H m->tt σ H Q
end
section
variable {K:PySem.W.Frag}{Er:Exc->Hp->Prop}{S:SC}{OO OO' OO2:List (List Xr)}{σ:St}{α β γ:Type}
theorem FB.tr {r:Enc α}{Q:VK}:∀a H H',Xp H H'->FB K r Q a H->FB K r Q a H':=λa H H' s h v H2 s2 q=>h v H2 (s.trans s2) q
theorem FO.tr {o:OE α}{Q:VK}:∀a H H',Xp H H'->FO K OO OO' o Q a H->FO K OO OO' o Q a H':=λa H H' s h v C H2 s2 w m q=>h v C H2 (s.trans s2) w ((Xj s).trans m) q
theorem FT.tr {Q:Bool->Hp->Prop}:∀b H H',Xp H H'->FT Q b H->FT Q b H':=λa H H' s h H2 s2=>h H2 (s.trans s2)
theorem EvB.run {te:TE}{r:Enc α}{m:Rs α}(he:EvB K Er S OO σ te r m){H:Hp}{Q:VK}(w:W OO H)(s:S.p (hid H OO)){f:α->Rs β}{F:β->Hp->Prop}(hF:∀b H H',Xp H H'->F b H->F b H')(P:PZ Er F H (m.bind f))
  (hk:∀a v H',Xp H H'->W OO H'->S.p (hid H' OO)->r K H' v a->PZ Er F H' (f a)->Q v H'):te σ H Q:=by
 refine he H Q w s ?_
 cases m with
 |bad=>exact P
 |err x=>exact P
 |ok a=>
  intro v H' s' hr
  refine hk a v H' s' (w.keep s') (S.mono _ _ (Xj s') s) hr ?_
  have P':PZ Er F H (f a):=P
  revert P'
  cases f a with
  |bad=>exact λz=>z
  |err x=>exact λz H2 s2=>z H2 (s'.trans s2)
  |ok b=>exact λz=>hF b H H' s' z
theorem Ev.run {te:TE}{o:OE α}{m:Rs α}(he:Ev K Er S OO OO' σ te o m){H:Hp}{Q:VK}(w:W OO H)(s:S.p (hid H OO)){f:α->Rs β}{F:β->Hp->Prop}(hF:∀b H H',Xp H H'->F b H->F b H')(P:PZ Er F H (m.bind f))
  (hk:∀a v C H',Xp H H'->W (C::OO') H'->Xp (hid H OO) (hid H' (C::OO'))->S.p (hid H' (C::OO'))->o K (hid H' (C::OO')) v a C->PZ Er F H' (f a)->Q v H'):te σ H Q:=by
 refine he H Q w s ?_
 cases m with
 |bad=>exact P
 |err x=>exact P
 |ok a=>
  intro v C H' s' w' m' ho
  refine hk a v C H' s' w' m' (S.mono _ _ m' s) ho ?_
  have P':PZ Er F H (f a):=P
  revert P'
  cases f a with
  |bad=>exact λz=>z
  |err x=>exact λz H2 s2=>z H2 (s'.trans s2)
  |ok b=>exact λz=>hF b H H' s' z
theorem EvT.run {tt:TT}{m:Rs Bool}(he:EvT Er S OO σ tt m){H:Hp}{Q:Bool->Hp->Prop}(w:W OO H)(s:S.p (hid H OO)){f:Bool->Rs β}{F:β->Hp->Prop}(hF:∀b H H',Xp H H'->F b H->F b H')(P:PZ Er F H (m.bind f))
  (hk:∀b H',Xp H H'->W OO H'->S.p (hid H' OO)->PZ Er F H' (f b)->Q b H'):tt σ H Q:=by
 refine he H Q w s ?_
 cases m with
 |bad=>exact P
 |err x=>exact P
 |ok a=>
  intro H' s'
  refine hk a H' s' (w.keep s') (S.mono _ _ (Xj s') s) ?_
  have P':PZ Er F H (f a):=P
  revert P'
  cases f a with
  |bad=>exact λz=>z
  |err x=>exact λz H2 s2=>z H2 (s'.trans s2)
  |ok b=>exact λz=>hF b H H' s' z
theorem Ev.toB {te:TE}{o:OE α}{r:Enc α}[z:FrzC o r]{m:Rs α}(he:Ev K Er S OO OO σ te o m):EvB K Er S OO σ te r m:=λH Q w s P=>by
 refine he H Q w s ?_
 cases m with
 |bad=>exact P
 |err x=>exact P
 |ok a=>exact λv C H' s' w' m' ho=>P v H' s' (z.frz ho XD w'.cell)
theorem Ev.frz {te:TE}{o:OE α}{r:Enc α}[z:FrzC o r]{m:Rs α}(he:Ev K Er S OO OO' σ te o m):Ev K Er S OO OO' σ te (oF r) m:=λH Q w s P=>by
 refine he H Q w s ?_
 cases m with
 |bad=>exact P
 |err x=>exact P
 |ok a=>
  intro v C H' s' w' m' ho
  have hs:Xp (hid H' (C::OO')) (hid H' ([]::OO')):=Vm (Xp.refl _) λb hb=>by rw[Fq] at hb;rw[X6];simp[hb]
  refine P v [] H' s' w'.tail.nil (m'.trans hs) ⟨rfl,z.frz ho hs λc hc=>Zm (w'.cell c hc) ?_⟩
  rw[Fq]
  have:=w'.nd
  rw[X6] at this
  intro hb
  exact(List.nodup_append.mp this).2.2 c.1 (List.mem_map.mpr ⟨c,hc,rfl⟩) c.1 hb rfl
theorem EvB.flat {te:TE}{r:Enc α}[z:FlatE r]{m:Rs α}(he:EvB K Er S OO σ te r m):Ev K Er S OO OO σ te (oF r) m:=λH Q w s P=>by
 refine he H Q w s ?_
 cases m with
 |bad=>exact P
 |err x=>exact P
 |ok a=>
  intro v H' s' hr
  have w':=w.keep s'
  exact P v [] H' s' w'.nil (by rw[Zh];exact Xj s') ⟨rfl,by rw[Zh];exact z.flat w'.i hr⟩
theorem Xb {r:Enc α}[z:MonoE r]{v:V}{a:α}(i:Nat)(hσ:σ[i]?=some (some v))(h:∀x,S.p x->r K x v a):EvB K Er S OO σ (VM i) r (.ok a):=λH Q w s P=>
 ⟨v,hσ,P v H (Xp.refl _) (z.mono XD (h _ s))⟩
theorem Zt {o:OE α}{r:Enc α}[z:FrzC o r]{v:V}{a:α}{C:List Xr}(i k:Nat)(hσ:σ[i]?=some (some v))(hk:OO[k]?=some C)(h:∀x,S.p x->o K x v a C):EvB K Er S OO σ (VM i) r (.ok a):=λH Q w s P=>
 ⟨v,hσ,P v H (Xp.refl _) (z.frz (h _ s) XD λc hc=>w.tr c (List.mem_flatten.mpr ⟨C,List.mem_of_getElem? hk,hc⟩))⟩
theorem XR:∀{OO:List (List Xr)}{k:Nat}{C:List Xr},OO[k]?=some C->(C::OO.set k []).flatten.Perm OO.flatten
 | [],_,_,h=>by simp at h
 |D::OO,0,C,h=>by simp at h;subst h;simp
 |D::OO,k+1,C,h=>by
  have:=XR (OO:=OO) (k:=k) (C:=C) (by simpa using h)
  simp only[List.set_cons_succ,List.flatten_cons] at this⊢
  refine List.Perm.trans ?_ (this.append_left D)
  rw[←List.append_assoc, ←List.append_assoc]
  exact List.perm_append_comm.append_right _
theorem Qt {OO OO':List (List Xr)}(h:OO'.flatten.Perm OO.flatten)(b:Addr):b∈fl OO'↔b∈fl OO:=(h.map (·.1)).mem_iff
theorem Yn {H:Hp}{OO OO':List (List Xr)}(h:OO'.flatten.Perm OO.flatten):hid H OO'=hid H OO:=by
 funext b;unfold hid
 by_cases hb:b∈fl OO
 ·rw[if_pos hb,if_pos ((Qt h b).mpr hb)]
 ·rw[if_neg hb,if_neg λz=>hb ((Qt h b).mp z)]
theorem Y5 {o:OE α}{v:V}{a:α}{C:List Xr}(i k:Nat)(hσ:σ[i]?=some (some v))(hk:OO[k]?=some C)(h:∀x,S.p x->o K x v a C):Ev K Er S OO (OO.set k []) σ (VM i) o (.ok a):=λH Q w s P=>by
 have hp:=XR hk
 exact⟨v,hσ,P v C H (Xp.refl _) (w.of hp) (by rw[Yn hp];exact Xp.refl _) (by rw[Yn hp];exact h _ s)⟩
theorem Xe (n:Int):EvB K Er S OO σ (tC (.int n)) Xd (.ok n):=λH Q w s P=>P _ H (Xp.refl _) rfl
theorem YQ (b:Bool):EvB K Er S OO σ (tC (.bl b)) Xz (.ok b):=λH Q w s P=>P _ H (Xp.refl _) rfl
theorem Yr (x:Str):EvB K Er S OO σ (tC (.str x)) XG (.ok x):=λH Q w s P=>P _ H (Xp.refl _) rfl
theorem Ji {ta tb:TE}{g:Int->Int->V}{r:Enc β}{f:Int->Int->β}{ma mb:Rs Int}(hg:∀K H i j,r K H (g i j) (f i j))(ha:EvB K Er S OO σ ta Xd ma)(hb:EvB K Er S OO σ tb Xd mb):
  EvB K Er S OO σ (tOp (rI0 g) ta tb) r (ma.bind λa=>mb.bind λb=>.ok (f a b)):=λH Q w s P=>
 ha.run w s FB.tr P λa x H1 s1 w1 q1 r1 P1=>hb.run w1 q1 FB.tr P1 λb y H2 s2 w2 q2 r2 P2=>⟨a,b,r1,r2,P2 _ H2 (Xp.refl _) (hg K H2 a b)⟩
theorem VR {ta tb:TE}{Cc:Int->Int->Prop}{g:Int->Int->V}{r:Enc β}{f:Int->Int->Rs β}{ma mb:Rs Int}(hg:∀K H i j c,f i j= .ok c->Cc i j/\r K H (g i j) c)(he:∀i j x,f i j≠ .err x)
  (ha:EvB K Er S OO σ ta Xd ma)(hb:EvB K Er S OO σ tb Xd mb):
  EvB K Er S OO σ (tOp (rI Cc g) ta tb) r (ma.bind λa=>mb.bind λb=>f a b):=λH Q w s P=>
 ha.run w s FB.tr P λa x H1 s1 w1 q1 r1 P1=>hb.run w1 q1 FB.tr P1 λb y H2 s2 w2 q2 r2 P2=>by
  cases e:f a b with
  |bad=>rw[e] at P2;exact P2.elim
  |err x=>exact absurd e (he a b x)
  |ok c=>
   rw[e] at P2
   obtain⟨h1,h2⟩:=hg K H2 a b c e
   exact⟨a,b,r1,r2,h1,P2 _ H2 (Xp.refl _) h2⟩
noncomputable def JC (a b:Int):Rs Int:=chk ((-(2^64)<a/\a<2^64)∨(-(2^64)<b/\b<2^64)) (.ok (a*b))
noncomputable def Qo (a b:Int):Rs Int:=chk (0<b) (.ok (a % b))
noncomputable def EH (a b:Int):Rs Int:=chk (0<b/\b.natAbs.log2<9000) (.ok (a/b))
noncomputable def GJ (a b:Int):Rs Int:=chk (0<=b/\b<=1000000/\a.natAbs<2^64) (.ok (a^b.toNat))
theorem Zc {c:Prop}[Decidable c]{m:Rs α}{a:α}(h:chk c m= .ok a):c/\m= .ok a:=by
 unfold chk at h;split at h
 ·exact⟨by assumption,h⟩
 ·cases h
theorem Z2 {c:Prop}[Decidable c]{a:α}{x:Exc}:chk c (Rs.ok a)≠ .err x:=by
 unfold chk;split<;> exact λz=>nomatch z
theorem Yb {ta tb:TE}{ma mb:Rs Int}(ha:EvB K Er S OO σ ta Xd ma)(hb:EvB K Er S OO σ tb Xd mb):EvB K Er S OO σ (tOp (rI HQ λi j=>.int (i*j)) ta tb) Xd (ma.bind λa=>mb.bind λb=>JC a b):=
 VR (λK H i j c h=>by obtain⟨h1,h2⟩:=Zc h;cases h2;exact⟨h1,rfl⟩) (λi j x=>Z2) ha hb
theorem XM {ta tb:TE}{ma mb:Rs Int}(ha:EvB K Er S OO σ ta Xd ma)(hb:EvB K Er S OO σ tb Xd mb):EvB K Er S OO σ (tOp (rI (λ_ j=>0<j) λi j=>.int (i % j)) ta tb) Xd (ma.bind λa=>mb.bind λb=>Qo a b):=
 VR (λK H i j c h=>by obtain⟨h1,h2⟩:=Zc h;cases h2;exact⟨h1,rfl⟩) (λi j x=>Z2) ha hb
theorem U4 {ta tb:TE}{ma mb:Rs Int}(ha:EvB K Er S OO σ ta Xd ma)(hb:EvB K Er S OO σ tb Xd mb):EvB K Er S OO σ (tOp (rI (λ_ j=>0<j/\j.natAbs.log2<9000) λi j=>.int (i/j)) ta tb) Xd (ma.bind λa=>mb.bind λb=>EH a b):=
 VR (λK H i j c h=>by obtain⟨h1,h2⟩:=Zc h;cases h2;exact⟨h1,rfl⟩) (λi j x=>Z2) ha hb
theorem Z3 {ta tb:TE}{ma mb:Rs Int}(ha:EvB K Er S OO σ ta Xd ma)(hb:EvB K Er S OO σ tb Xd mb):EvB K Er S OO σ (tOp (rI Iy λi j=>.int (i^j.toNat)) ta tb) Xd (ma.bind λa=>mb.bind λb=>GJ a b):=
 VR (λK H i j c h=>by obtain⟨h1,h2⟩:=Zc h;cases h2;exact⟨h1,rfl⟩) (λi j x=>Z2) ha hb
theorem XU {ta tb:TE}{ma mb:Rs Int}(ha:EvB K Er S OO σ ta Xd ma)(hb:EvB K Er S OO σ tb Xd mb):EvB K Er S OO σ (tOp (rI0 λi j=>.int (i+j)) ta tb) Xd (ma.bind λa=>mb.bind λb=>.ok (a+b)):=Ji (λ_ _ _ _=>rfl) ha hb
theorem Yy {ta tb:TE}{ma mb:Rs Int}(ha:EvB K Er S OO σ ta Xd ma)(hb:EvB K Er S OO σ tb Xd mb):EvB K Er S OO σ (tOp (rI0 λi j=>.int (i-j)) ta tb) Xd (ma.bind λa=>mb.bind λb=>.ok (a-b)):=Ji (λ_ _ _ _=>rfl) ha hb
theorem JQ {ta tb:TE}{ma mb:Rs Int}(ha:EvB K Er S OO σ ta Xd ma)(hb:EvB K Er S OO σ tb Xd mb):EvB K Er S OO σ (tOp (rI0 λi j=>.bl (decide (i<j))) ta tb) Xz (ma.bind λa=>mb.bind λb=>.ok (decide (a<b))):=Ji (λ_ _ _ _=>rfl) ha hb
theorem Jb {ta tb:TE}{ma mb:Rs Int}(ha:EvB K Er S OO σ ta Xd ma)(hb:EvB K Er S OO σ tb Xd mb):EvB K Er S OO σ (tOp (rI0 λi j=>.bl (decide (j<i))) ta tb) Xz (ma.bind λa=>mb.bind λb=>.ok (decide (b<a))):=Ji (λ_ _ _ _=>rfl) ha hb
theorem Dd {ta tb:TE}{ma mb:Rs Int}(ha:EvB K Er S OO σ ta Xd ma)(hb:EvB K Er S OO σ tb Xd mb):EvB K Er S OO σ (tOp (rI0 λi j=>.bl (decide (j<=i))) ta tb) Xz (ma.bind λa=>mb.bind λb=>.ok (decide (b<=a))):=Ji (λ_ _ _ _=>rfl) ha hb
theorem F5 {ta:TE}{ma:Rs Int}(ha:EvB K Er S OO σ ta Xd ma):EvB K Er S OO σ (tUn (rU λi=>.int (-i)) ta) Xd (ma.bind λa=>.ok (-a)):=λH Q w s P=>
 ha.run w s FB.tr P λa x H1 s1 w1 q1 r1 P1=>⟨a,r1,P1 _ H1 (Xp.refl _) rfl⟩
class Scal {α:Type}[DecidableEq α](r:Enc α):Prop where
 to:∀{K:PySem.W.Frag}{H H':Hp}{x y:V}{a b:α},r K H x a->r K H' y b->Ie x y=true/\decide (x=y)=decide (a=b)
instance:Scal Xd:=⟨fun {K H H' x y a b} h1 h2=>by cases(show x= .int a from h1);cases(show y= .int b from h2);exact⟨rfl,by simp⟩⟩
instance:Scal Xz:=⟨fun {K H H' x y a b} h1 h2=>by cases(show x= .bl a from h1);cases(show y= .bl b from h2);exact⟨rfl,by simp⟩⟩
instance:Scal XG:=⟨fun {K H H' x y a b} h1 h2=>by cases(show x= .str a from h1);cases(show y= .str b from h2);exact⟨rfl,by simp⟩⟩
theorem Yo [DecidableEq α]{r:Enc α}[z:Scal r][MonoE r]{ta tb:TE}{ma mb:Rs α}(ha:EvB K Er S OO σ ta r ma)(hb:EvB K Er S OO σ tb r mb):EvB K Er S OO σ (tOp rEq ta tb) Xz (ma.bind λa=>mb.bind λb=>.ok (decide (a=b))):=λH Q w s P=>
 ha.run w s FB.tr P λa x H1 s1 w1 q1 r1 P1=>hb.run w1 q1 FB.tr P1 λb y H2 s2 w2 q2 r2 P2=>by
  obtain⟨h1,h2⟩:=z.to r1 r2
  exact⟨h1,P2 _ H2 (Xp.refl _) (by rw[h2];rfl)⟩
theorem JN [DecidableEq α]{r:Enc α}[z:Scal r][MonoE r]{ta tb:TE}{ma mb:Rs α}(ha:EvB K Er S OO σ ta r ma)(hb:EvB K Er S OO σ tb r mb):EvB K Er S OO σ (tOp rNe ta tb) Xz (ma.bind λa=>mb.bind λb=>.ok (!decide (a=b))):=λH Q w s P=>
 ha.run w s FB.tr P λa x H1 s1 w1 q1 r1 P1=>hb.run w1 q1 FB.tr P1 λb y H2 s2 w2 q2 r2 P2=>by
  obtain⟨h1,h2⟩:=z.to r1 r2
  exact⟨h1,P2 _ H2 (Xp.refl _) (by rw[h2];rfl)⟩
theorem UQ [DecidableEq α]{r:Enc α}[z:MonoE r]{ta tb:TE}{ma mb:Rs α}(ha:EvB K Er S OO σ ta r ma)(hb:EvB K Er S OO σ tb r mb):EvB K Er S OO σ (tOp (IR K r) ta tb) Xz (ma.bind λa=>mb.bind λb=>.ok (decide (a=b))):=λH Q w s P=>
 ha.run w s FB.tr P λa x H1 s1 w1 q1 r1 P1=>hb.run w1 q1 FB.tr P1 λb y H2 s2 w2 q2 r2 P2=>⟨a,b,z.mono s2 r1,r2,P2 _ H2 (Xp.refl _) rfl⟩
theorem VO [DecidableEq α]{r:Enc α}[z:MonoE r]{ta tb:TE}{ma mb:Rs α}(ha:EvB K Er S OO σ ta r ma)(hb:EvB K Er S OO σ tb r mb):EvB K Er S OO σ (tOp (Ix K r) ta tb) Xz (ma.bind λa=>mb.bind λb=>.ok (!decide (a=b))):=λH Q w s P=>
 ha.run w s FB.tr P λa x H1 s1 w1 q1 r1 P1=>hb.run w1 q1 FB.tr P1 λb y H2 s2 w2 q2 r2 P2=>⟨a,b,z.mono s2 r1,r2,P2 _ H2 (Xp.refl _) rfl⟩
theorem Qk {te:TE}{m:Rs Bool}(h:EvB K Er S OO σ te Xz m):EvT Er S OO σ (tB te) m:=λH Q w s P=>h H _ w s (by
 cases m with
 |bad=>exact P
 |err x=>exact P
 |ok a=>exact λv H' s' r=>⟨a,r,P H' s'⟩)
theorem Xk {te:TE}{m:Rs Bool}(h:EvB K Er S OO σ te Xz m):EvT Er S OO σ (BO te) m:=Qk h
theorem YA {t:TT}{m:Rs Bool}(h:EvT Er S OO σ t m):EvT Er S OO σ (IH t) (m.bind λb=>.ok (!b)):=λH Q w s P=>h.run w s FT.tr P λb H1 s1 w1 q1 P1=>P1 H1 (Xp.refl _)
noncomputable def JH (a b:Rs Bool):Rs Bool:=a.bind λx=>if x=true then b else .ok false
noncomputable def orR (a b:Rs Bool):Rs Bool:=a.bind λx=>if x=true then .ok true else b
theorem Y8 {t u:TT}{m n:Rs Bool}(h:EvT Er S OO σ t m)(k:EvT Er S OO σ u n):EvT Er S OO σ (IN t u) (JH m n):=λH Q w s P=>h.run w s FT.tr P λb H1 s1 w1 q1 P1=>by
 cases b with
 |true=>rw[if_pos rfl] at P1⊢;exact k H1 Q w1 q1 P1
 |false=>exact P1 H1 (Xp.refl _)
theorem QG {t u:TT}{m n:Rs Bool}(h:EvT Er S OO σ t m)(k:EvT Er S OO σ u n):EvT Er S OO σ (tOr t u) (orR m n):=λH Q w s P=>h.run w s FT.tr P λb H1 s1 w1 q1 P1=>by
 cases b with
 |true=>exact P1 H1 (Xp.refl _)
 |false=>exact k H1 Q w1 q1 P1
theorem Vl {t:TE}{m:Rs Bool}(h:EvB K Er S OO σ t Xz m):EvB K Er S OO σ (Hw t) Xz (m.bind λb=>.ok (!b)):=λH Q w s P=>h.run w s FB.tr P λb x H1 s1 w1 q1 r1 P1=>⟨b,r1,P1 _ H1 (Xp.refl _) rfl⟩
theorem Qh {t u:TE}{m n:Rs Bool}(h:EvB K Er S OO σ t Xz m)(k:EvB K Er S OO σ u Xz n):EvB K Er S OO σ (Hf t u) Xz (JH m n):=λH Q w s P=>h.run w s FB.tr P λb x H1 s1 w1 q1 r1 P1=>⟨b,r1,by
 cases b with
 |true=>rw[if_pos rfl] at P1⊢;exact k H1 Q w1 q1 P1
 |false=>exact P1 _ H1 (Xp.refl _) rfl⟩
theorem Fz {t u:TE}{m n:Rs Bool}(h:EvB K Er S OO σ t Xz m)(k:EvB K Er S OO σ u Xz n):EvB K Er S OO σ (Iw t u) Xz (orR m n):=λH Q w s P=>h.run w s FB.tr P λb x H1 s1 w1 q1 r1 P1=>⟨b,r1,by
 cases b with
 |true=>exact P1 _ H1 (Xp.refl _) rfl
 |false=>exact k H1 Q w1 q1 P1⟩
theorem ET {c:TT}{ta tb:TE}{r:Enc α}{mc:Rs Bool}{ma mb:Rs α}(hc:EvT Er S OO σ c mc)(ha:EvB K Er S OO σ ta r ma)(hb:EvB K Er S OO σ tb r mb):EvB K Er S OO σ (tIf c ta tb) r (mc.bind λb=>if b=true then ma else mb):=λH Q w s P=>
 hc.run w s FB.tr P λb H1 s1 w1 q1 P1=>by
  cases b with
  |true=>rw[if_pos rfl] at P1⊢;exact ha H1 Q w1 q1 P1
  |false=>exact hb H1 Q w1 q1 P1
theorem Ii {c:TT}{ta tb:TE}{o:OE α}{mc:Rs Bool}{ma mb:Rs α}(hc:EvT Er S OO σ c mc)(ha:Ev K Er S OO OO' σ ta o ma)(hb:Ev K Er S OO OO' σ tb o mb):Ev K Er S OO OO' σ (tIf c ta tb) o (mc.bind λb=>if b=true then ma else mb):=λH Q w s P=>
 hc.run w s FO.tr P λb H1 s1 w1 q1 P1=>by
  cases b with
  |true=>rw[if_pos rfl] at P1⊢;exact ha H1 Q w1 q1 P1
  |false=>exact hb H1 Q w1 q1 P1
end
section
variable (K:PySem.W.Frag)(Er:Exc->Hp->Prop)(S:SC)(OO:List (List Xr))(σ:St)
noncomputable def FS {α:Type}(r:Enc α)(Q:VK)(a:α)(H:Hp):Prop:=∀ v H',Xp H H'->r K (hid H' OO) v a->Q v H'
noncomputable def EvS {α:Type}(te:TE)(r:Enc α)(m:Rs α):Prop:=∀ H Q,W OO H->S.p (hid H OO)->PZ Er (FS K OO r Q) H m->te σ H Q
noncomputable def rE {α:Type}(r:Enc α)(H:Hp)(v:V)(as:List α):Prop:=∃ p xs,v= .ref p/\H p=some (.lst xs)/\Paired (r K (hid H OO)) xs as
noncomputable def FL {α:Type}(r:Enc α)(Q:VK)(as:List α)(H:Hp):Prop:=∀ v H',Xp H H'->rE K OO r H' v as->Q v H'
noncomputable def EvL {α:Type}(te:TE)(r:Enc α)(m:Rs (List α)):Prop:=∀ H Q,W OO H->S.p (hid H OO)->PZ Er (FL K OO r Q) H m->te σ H Q
end
section
variable {K:PySem.W.Frag}{Er:Exc->Hp->Prop}{S:SC}{OO OO' OO2:List (List Xr)}{σ:St}{α β γ:Type}
theorem FS.tr {r:Enc α}{Q:VK}:∀a H H',Xp H H'->FS K OO r Q a H->FS K OO r Q a H':=λa H H' s h v H2 s2 q=>h v H2 (s.trans s2) q
theorem FL.tr {r:Enc α}{Q:VK}:∀a H H',Xp H H'->FL K OO r Q a H->FL K OO r Q a H':=λa H H' s h v H2 s2 q=>h v H2 (s.trans s2) q
theorem PZ.run {F:β->Hp->Prop}{f:α->Rs β}{H H':Hp}{a:α}{m:Rs α}(hm:m= .ok a)(hF:∀b H H',Xp H H'->F b H->F b H')(s:Xp H H')(P:PZ Er F H (m.bind f)):PZ Er F H' (f a):=by
 subst hm
 have P':PZ Er F H (f a):=P
 revert P'
 cases f a with
 |bad=>exact λz=>z
 |err x=>exact λz H2 s2=>z H2 (s.trans s2)
 |ok b=>exact λz=>hF b H H' s z
theorem EvS.run {te:TE}{r:Enc α}{m:Rs α}(he:EvS K Er S OO σ te r m){H:Hp}{Q:VK}(w:W OO H)(s:S.p (hid H OO)){f:α->Rs β}{F:β->Hp->Prop}(hF:∀b H H',Xp H H'->F b H->F b H')(P:PZ Er F H (m.bind f))
  (hk:∀a v H',Xp H H'->W OO H'->S.p (hid H' OO)->r K (hid H' OO) v a->PZ Er F H' (f a)->Q v H'):te σ H Q:=by
 refine he H Q w s ?_
 cases e:m with
 |bad=>rw[e] at P;exact P
 |err x=>rw[e] at P;exact P
 |ok a=>exact λv H' s' hr=>hk a v H' s' (w.keep s') (S.mono _ _ (Xj s') s) hr (PZ.run e hF s' P)
theorem EvL.run {te:TE}{r:Enc α}{m:Rs (List α)}(he:EvL K Er S OO σ te r m){H:Hp}{Q:VK}(w:W OO H)(s:S.p (hid H OO)){f:List α->Rs β}{F:β->Hp->Prop}(hF:∀b H H',Xp H H'->F b H->F b H')(P:PZ Er F H (m.bind f))
  (hk:∀a v H',Xp H H'->W OO H'->S.p (hid H' OO)->rE K OO r H' v a->PZ Er F H' (f a)->Q v H'):te σ H Q:=by
 refine he H Q w s ?_
 cases e:m with
 |bad=>rw[e] at P;exact P
 |err x=>rw[e] at P;exact P
 |ok a=>exact λv H' s' hr=>hk a v H' s' (w.keep s') (S.mono _ _ (Xj s') s) hr (PZ.run e hF s' P)
theorem PZ.imp {F G:β->Hp->Prop}{H:Hp}{m:Rs β}(P:PZ Er F H m)(h:∀b,m= .ok b->F b H->G b H):PZ Er G H m:=by
 cases m with
 |bad=>exact P
 |err x=>exact P
 |ok b=>exact h b rfl P
theorem EvS.toB {te:TE}{r:Enc α}[z:MonoE r]{m:Rs α}(he:EvS K Er S OO σ te r m):EvB K Er S OO σ te r m:=λH Q w s P=>he H Q w s (P.imp λb _ h v H' s' q=>h v H' s' (z.mono XD q))
theorem EvS.ev {te:TE}{r:Enc α}{m:Rs α}(he:EvS K Er S OO σ te r m):Ev K Er S OO OO σ te (oF r) m:=λH Q w s P=>he H Q w s (P.imp λb _ h v H' s' q=>
 h v [] H' s' (w.keep s').nil (by rw[Zh];exact Xj s') ⟨rfl,by rw[Zh];exact q⟩)
theorem EvB.sh {te:TE}{r:Enc α}[z:FlatE r]{m:Rs α}(he:EvB K Er S OO σ te r m):EvS K Er S OO σ te r m:=λH Q w s P=>he H Q w s (P.imp λb _ h v H' s' q=>h v H' s' (z.flat (w.keep s').i q))
theorem Ev.sh {te:TE}{o:OE α}{r:Enc α}[z:FrzC o r]{m:Rs α}(he:Ev K Er S OO OO σ te o m):EvS K Er S OO σ te r m:=λH Q w s P=>he.frz H Q w s (P.imp λb _ h v C H' s' w' m' q=>by
 obtain⟨rfl,q⟩:=q
 rw[Zh] at q
 exact h v H' s' q)
theorem XF {r:Enc α}{v:V}{a:α}(i:Nat)(hσ:σ[i]?=some (some v))(h:∀x,S.p x->r K x v a):EvS K Er S OO σ (VM i) r (.ok a):=λH Q w s P=>⟨v,hσ,P v H (Xp.refl _) (h _ s)⟩
theorem EvS.ls {te:TE}{r:Enc α}{m:Rs (List α)}(he:EvS K Er S OO σ te (rV r) m):EvL K Er S OO σ te r m:=λH Q w s P=>he H Q w s (P.imp λb _ h v H' s' r9=>by obtain⟨p,xs,e,q,pr⟩:=r9;exact h v H' s' ⟨p,xs,e,XD _ _ q,pr⟩)
theorem EvB.ls {te:TE}{r:Enc α}[z:FlatE r]{m:Rs (List α)}(he:EvB K Er S OO σ te (rV r) m):EvL K Er S OO σ te r m:=λH Q w s P=>he H Q w s (P.imp λb _ h v H' s' r9=>by obtain⟨p,xs,e,q,pr⟩:=r9;exact h v H' s' ⟨p,xs,e,q,Paired.imp2 (λ_ _ z'=>z.flat (w.keep s').i z') pr⟩)
theorem Ev.ls {te:TE}{r:Enc α}[z:MonoE r]{m:Rs (List α)}(he:Ev K Er S OO OO σ te (oL (oF r)) m):EvL K Er S OO σ te r m:=he.sh.ls
noncomputable def atR (as:List α)(i:Int):Rs α:=match atI as i with
 |some a=>.ok a
 |none=>.bad
theorem F7 {as:List α}{i:Int}{a:α}(h:atR as i= .ok a):atI as i=some a:=by
 unfold atR at h;split at h
 ·cases h;assumption
 ·cases h
theorem Ks {as:List α}{i:Int}{x:Exc}:atR as i≠ .err x:=by unfold atR;split<;> exact λz=>nomatch z
theorem J0 {F:V->α->Prop}{xs:List V}{as:List α}{i:Int}{a:α}(p:Paired F xs as)(h:atI as i=some a):∃x,atI xs i=some x/\F x a:=by
 unfold atI at h⊢
 rw[Paired.len p]
 cases e:ixN as.length i with
 |none=>rw[e] at h;cases h
 |some j=>
  rw[e] at h
  obtain⟨x,h1,h2⟩:=Paired.getR p h
  exact⟨x,h1,h2⟩
theorem PZ.okOf {F:β->Hp->Prop}{H:Hp}{m:Rs β}(he:∀x,m≠ .err x)(P:PZ Er F H m):∃b,m= .ok b/\F b H:=by
 cases m with
 |bad=>exact P.elim
 |err x=>exact absurd rfl (he x)
 |ok b=>exact⟨b,rfl,P⟩
theorem XL {ta tb:TE}{r:Enc α}[z:MonoE r]{ma:Rs (List α)}{mb:Rs Int}(ha:EvB K Er S OO σ ta (rV r) ma)(hb:EvB K Er S OO σ tb Xd mb):EvB K Er S OO σ (tOp (Ei K) ta tb) r (ma.bind λas=>mb.bind λi=>atR as i):=λH Q w s P=>
 ha.run w s FB.tr P λa x H1 s1 w1 q1 ⟨p,xs,e,q,pr⟩ P1=>hb.run w1 q1 FB.tr P1 λb y H2 s2 w2 q2 r2 P2=>by
  obtain⟨c,hc,P3⟩:=P2.okOf λx=>Ks
  obtain⟨u,h1,h2⟩:=J0 pr (F7 hc)
  exact⟨p,xs,b,u,e,r2,SqL.of (s2 _ _ q),h1,P3 u H2 (Xp.refl _) (z.mono s2 h2)⟩
theorem BW {ta:TE}{r:Enc α}{q:Enc β}{m:Rs (α×β)}(ha:EvB K Er S OO σ ta (rP2 r q) m):EvB K Er S OO σ (tOp (HP K) ta (tC (.int 1))) q (m.bind λp=>.ok p.2):=λH Q w s P=>
 ha.run w s FB.tr P λa x H1 s1 w1 q1 r9 P1=>by obtain⟨p,x,y,e,q,h1,h2⟩:=r9;exact⟨p,_,1,y,e,rfl,SqT.of q,rfl,P1 _ H1 (Xp.refl _) h2⟩
theorem YG {ta:TE}{r:Enc α}{m:Rs (List α)}(ha:EvB K Er S OO σ ta (rV r) m):EvB K Er S OO σ (tCB (FV K) (XA ta Zy)) Xd (m.bind λas=>.ok (as.length:Int)):=λH Q w s P=>
 ha.run w s FB.tr P λa x H1 s1 w1 q1 r9 P1=>by obtain⟨p,xs,e,q,pr⟩:=r9;exact⟨p,xs,by rw[e], .inl (SqL.of q),P1 _ H1 (Xp.refl _) (by rw[Paired.len pr];rfl)⟩
theorem Br {r:Enc α}[z:MonoE r]{xs:List V}{as:List α}{H:Hp}{Q:VK}(w:W OO H)(pr:Paired (r K (hid H OO)) xs as)(P:FO K OO OO (oL (oF r)) Q as H):∀p,H p=none->Q (.ref p) (upd H p (.lst xs)):=λp hp=>by
 have hn:=Kh (OO:=OO) hp (o:=.lst xs)
 refine P (.ref p) [(p, .lst xs)] _ (Zq hp _) (w.new hp rfl) hn ?_
 refine⟨p,xs,List.replicate as.length [],rfl,(P3.of (Paired.imp2 (λ_ _ h=>z.mono hn h) pr)).imp λ_ _ _ h=>h,by rw[Yk]⟩
theorem Paired.take' {F:α->β->Prop}:∀{l:List α}{m:List β} (n:Nat),Paired F l m->Paired F (l.take n) (m.take n)
 |_,_,0,_=>.nil
 |_,_,_+1, .nil=>.nil
 |_,_,n+1, .cons r t=>.cons r (Paired.take' n t)
theorem Paired.drop' {F:α->β->Prop}:∀{l:List α}{m:List β} (n:Nat),Paired F l m->Paired F (l.drop n) (m.drop n)
 |_,_,0,h=>h
 |_,_,_+1, .nil=>.nil
 |_,_,n+1, .cons _ t=>Paired.drop' n t
theorem Paired.rep' {F:α->β->Prop}{l:List α}{m:List β}(h:Paired F l m):∀n:Nat,Paired F (List.replicate n l).flatten (List.replicate n m).flatten
 |0=>.nil
 |n+1=>by simp only[List.replicate_succ,List.flatten_cons];exact Paired.app h (Paired.rep' h n)
noncomputable def GG (as:List α)(lo hi:Option Int):List α:=(as.drop (HT.sIx as.length 0 lo)).take (HT.sIx as.length as.length hi-HT.sIx as.length 0 lo)
theorem JM {F:V->α->Prop}{xs:List V}{as:List α}(p:Paired F xs as)(lo hi:Option Int):Paired F (EG xs lo hi) (GG as lo hi):=by
 unfold EG GG;rw[Paired.len p];exact Paired.take' _ (Paired.drop' _ p)
noncomputable def FP (Q:Option Int->Hp->Prop)(a:Option Int)(H:Hp):Prop:=∀ H',Xp H H'->Q a H'
noncomputable def EvP (Er:Exc->Hp->Prop)(S:SC)(OO:List (List Xr))(σ:St)(t:TO)(m:Rs (Option Int)):Prop:=∀ H Q,W OO H->S.p (hid H OO)->PZ Er (FP Q) H m->t σ H Q
theorem EvP.run {t:TO}{m:Rs (Option Int)}(he:EvP Er S OO σ t m){H:Hp}{Q:Option Int->Hp->Prop}(w:W OO H)(s:S.p (hid H OO)){f:Option Int->Rs β}{F:β->Hp->Prop}(hF:∀b H H',Xp H H'->F b H->F b H')(P:PZ Er F H (m.bind f))
  (hk:∀a H',Xp H H'->W OO H'->S.p (hid H' OO)->PZ Er F H' (f a)->Q a H'):t σ H Q:=by
 refine he H Q w s ?_
 cases e:m with
 |bad=>rw[e] at P;exact P
 |err x=>rw[e] at P;exact P
 |ok a=>exact λH' s'=>hk a H' s' (w.keep s') (S.mono _ _ (Xj s') s) (PZ.run e hF s' P)
theorem QS:EvP Er S OO σ Fv (.ok none):=λH Q w s P=>P H (Xp.refl _)
theorem Q1 {te:TE}{m:Rs Int}(h:EvB K Er S OO σ te Xd m):EvP Er S OO σ (EJ te) (m.bind λi=>.ok (some i)):=λH Q w s P=>
 h.run w s (λ_ _ _ s h H2 s2=>h H2 (s.trans s2)) P λa v H1 s1 w1 q1 r1 P1=>⟨a,r1,P1 H1 (Xp.refl _)⟩
theorem Kt {te:TE}{tl th:TO}{r:Enc α}[z:MonoE r]{m:Rs (List α)}{ml mh:Rs (Option Int)}(he:EvL K Er S OO σ te r m)(hl:EvP Er S OO σ tl ml)(hh:EvP Er S OO σ th mh):
  Ev K Er S OO OO σ (tSl (HH K) te tl th) (oL (oF r)) (m.bind λas=>ml.bind λlo=>mh.bind λhi=>.ok (GG as lo hi)):=λH Q w s P=>
 he.run w s FO.tr P λas x H1 s1 w1 q1 ⟨p,xs,e,q,pr⟩ P1=>hl.run w1 q1 FO.tr P1 λlo H2 s2 w2 q2 P2=>hh.run w2 q2 FO.tr P2 λhi H3 s3 w3 q3 P3'=>
  ⟨p,xs,e,SqL.of (s3 _ _ (s2 _ _ q)),Br w3 (JM (Paired.imp2 (λ_ _ h=>z.mono ((Xj s2).trans (Xj s3)) h) pr) lo hi) P3'⟩
theorem C8 {ta:TE}{r:Enc α}{m:Rs (List α)}(ha:EvB K Er S OO σ ta (rL r) m):EvB K Er S OO σ (tCB (FV K) (XA ta Zy)) Xd (m.bind λas=>.ok (as.length:Int)):=λH Q w s P=>
 ha.run w s FB.tr P λa x H1 s1 w1 q1 r9 P1=>by obtain⟨p,xs,e,q,pr⟩:=r9;exact⟨p,xs,by rw[e], .inl q,P1 _ H1 (Xp.refl _) (by rw[Paired.len pr];rfl)⟩
theorem B0 {ta tb:TE}{ma:Rs (List Int)}{mb:Rs Int}(ha:EvB K Er S OO σ ta (rL Xd) ma)(hb:EvB K Er S OO σ tb Xd mb):EvB K Er S OO σ (tOp (Ei K) ta tb) Xd (ma.bind λas=>mb.bind λi=>atR as i):=λH Q w s P=>
 ha.run w s FB.tr P λa x H1 s1 w1 q1 ⟨p,xs,e,q,pr⟩ P1=>hb.run w1 q1 FB.tr P1 λb y H2 s2 w2 q2 r2 P2=>by
  obtain⟨c,hc,P3⟩:=P2.okOf λx=>Ks
  obtain⟨u,h1,h2⟩:=J0 pr (F7 hc)
  exact⟨p,xs,b,u,e,r2,s2.seq q,h1,P3 u H2 (Xp.refl _) h2⟩
theorem G2 {te:TE}{tl th:TO}{m:Rs (List Int)}{ml mh:Rs (Option Int)}(he:EvB K Er S OO σ te (rL Xd) m)(hl:EvP Er S OO σ tl ml)(hh:EvP Er S OO σ th mh):
  Ev K Er S OO OO σ (tSl (HH K) te tl th) (oL (oF Xd)) (m.bind λas=>ml.bind λlo=>mh.bind λhi=>.ok (GG as lo hi)):=λH Q w s P=>
 he.run w s FO.tr P λas x H1 s1 w1 q1 ⟨p,xs,e,q,pr⟩ P1=>hl.run w1 q1 FO.tr P1 λlo H2 s2 w2 q2 P2=>hh.run w2 q2 FO.tr P2 λhi H3 s3 w3 q3 P3'=>
  ⟨p,xs,e,s3.seq (s2.seq q),Br w3 (JM (Paired.imp2 (λ_ _ h=>h) pr) lo hi) P3'⟩
noncomputable def Cy (as bs:List α):Rs (List α):=chk (as.length+bs.length<=sizeLine) (.ok (as++bs))
theorem KR {ta tb:TE}{r:Enc α}[z:MonoE r]{ma mb:Rs (List α)}(ha:EvL K Er S OO σ ta r ma)(hb:EvL K Er S OO σ tb r mb):Ev K Er S OO OO σ (tOp II ta tb) (oL (oF r)) (ma.bind λas=>mb.bind λbs=>Cy as bs):=λH Q w s P=>
 ha.run w s FO.tr P λas x H1 s1 w1 q1 ⟨p,xs,e,q,pr⟩ P1=>hb.run w1 q1 FO.tr P1 λbs y H2 s2 w2 q2 ⟨p',ys,e',q',pr'⟩ P2=>by
  obtain⟨c,hc,P3⟩:=P2.okOf λx=>Z2
  obtain⟨h1,h2⟩:=Zc hc
  cases h2
  exact⟨p,p',xs,ys,e,e',s2 _ _ q,q',by rw[Paired.len pr,Paired.len pr'];exact h1,Br w2 (Paired.app (Paired.imp2 (λ_ _ h=>z.mono (Xj s2) h) pr) pr') P3⟩
noncomputable def BU (as:List α)(n:Int):Rs (List α):=chk (-(2^63)<=n/\n<2^63/\as.length*n.toNat<=sizeLine) (.ok (List.replicate n.toNat as).flatten)
theorem F6 {ta tb:TE}{r:Enc α}[z:MonoE r]{ma:Rs (List α)}{mb:Rs Int}(ha:EvL K Er S OO σ ta r ma)(hb:EvB K Er S OO σ tb Xd mb):Ev K Er S OO OO σ (tOp IA ta tb) (oL (oF r)) (ma.bind λas=>mb.bind λn=>BU as n):=λH Q w s P=>
 ha.run w s FO.tr P λas x H1 s1 w1 q1 ⟨p,xs,e,q,pr⟩ P1=>hb.run w1 q1 FO.tr P1 λn y H2 s2 w2 q2 r2 P2=>by
  obtain⟨c,hc,P3⟩:=P2.okOf λx=>Z2
  obtain⟨⟨h0,h1,h3⟩,h2⟩:=Zc hc
  cases h2
  exact⟨p,n,xs,e,r2,s2 _ _ q,h0,h1,by rw[Paired.len pr];exact h3,Br w2 (Paired.rep' (Paired.imp2 (λ_ _ h=>z.mono (Xj s2) h) pr) _) P3⟩
theorem VP {ta:TE}{r:Enc α}[z:MonoE r]{ma:Rs (List α)}(ha:EvL K Er S OO σ ta r ma):Ev K Er S OO OO σ (tCB (GK K) (XA ta Zy)) (oL (oF r)) (ma.bind λas=>.ok as):=λH Q w s P=>
 ha.run w s FO.tr P λas x H1 s1 w1 q1 r9 P1=>by obtain⟨p,xs,e,q,pr⟩:=r9;exact⟨p,xs,by rw[e], .inl (SqL.of q),Br w1 pr P1⟩
noncomputable def ZK (lo hi:Int):List Int:=(List.range (hi-lo).toNat).map λ(i:Nat)=>lo+(i:Int)
theorem UF {ta:TE}{ma:Rs Int}(ha:EvB K Er S OO σ ta Xd ma):Ev K Er S OO OO σ (KU (XA ta Zy)) (oL (oF Xd)) (ma.bind λn=>chk (0<=n/\n<=1000) (.ok (ZK 0 n))):=λH Q w s P=>
 ha.run w s FO.tr P λn x H1 s1 w1 q1 r1 P1=>by
  obtain⟨c,hc,P3⟩:=P1.okOf λx=>Z2
  obtain⟨⟨h0,h1⟩,h2⟩:=Zc hc
  cases h2
  refine⟨n,by rw[show x= .int n from r1],h0,h1,Br w1 ?_ P3⟩
  unfold ZK
  rw[Int.sub_zero]
  have:∀l:List Nat,Paired (Xd K (hid H1 OO)) (l.map λ(i:Nat)=>V.int (i:Int)) (l.map λ(i:Nat)=>(0:Int)+(i:Int)):=λl=>by
   induction l with
   |nil=>exact .nil
   |cons a l ih=>exact .cons (by show V.int (a:Int)=V.int (0+(a:Int));rw[Int.zero_add]) ih
  exact this _
theorem VT {o:OE α}:Ev K Er S OO OO σ (CL Zy) (oL o) (.ok []):=λH Q w s P=>⟨Nat.zero_le _,λp hp=>P (.ref p) [(p, .lst [])] _ (Zq hp _) (w.new hp rfl) (Kh hp) ⟨p,[],[],rfl, .nil,rfl⟩⟩
noncomputable def FA {α:Type}(K:PySem.W.Frag)(OO:List (List Xr))(r:Enc α)(Q:List V->Hp->Prop)(as:List α)(H:Hp):Prop:=∀ vs H',Xp H H'->Paired (r K (hid H' OO)) vs as->Q vs H'
noncomputable def EvA {α:Type}(K:PySem.W.Frag)(Er:Exc->Hp->Prop)(S:SC)(OO:List (List Xr))(σ:St)(t:TA)(r:Enc α)(m:Rs (List α)):Prop:=∀ H Q,W OO H->S.p (hid H OO)->PZ Er (FA K OO r Q) H m->t σ H Q
theorem YF {r:Enc α}:EvA K Er S OO σ Zy r (.ok []):=λH Q w s P=>P [] H (Xp.refl _) .nil
theorem Xl {te:TE}{t:TA}{r:Enc α}[z:MonoE r]{m:Rs α}{n:Rs (List α)}(he:EvS K Er S OO σ te r m)(ht:EvA K Er S OO σ t r n):EvA K Er S OO σ (XA te t) r (m.bind λa=>n.bind λas=>.ok (a::as)):=λH Q w s P=>
 he.run w s (λb H H' s h vs H2 s2 p=>h vs H2 (s.trans s2) p) P λa x H1 s1 w1 q1 r1 P1=>by
  refine ht H1 _ w1 q1 ?_
  cases e:n with
  |bad=>rw[e] at P1;exact P1
  |err x=>rw[e] at P1;exact P1
  |ok as=>rw[e] at P1;exact λvs H2 s2 p=>P1 (x::vs) H2 s2 (.cons (z.mono (Xj s2) r1) p)
theorem Zv {t:TA}{r:Enc α}[z:MonoE r]{m:Rs (List α)}(h:EvA K Er S OO σ t r m):Ev K Er S OO OO σ (CL t) (oL (oF r)) (m.bind λas=>chk (as.length<=sizeLine) (.ok as)):=λH Q w s P=>by
 refine h H _ w s ?_
 cases e:m with
 |bad=>rw[e] at P;exact P
 |err x=>rw[e] at P;exact P
 |ok as=>
  rw[e] at P
  intro vs H1 s1 p
  obtain⟨c,hc,P3⟩:=PZ.okOf (λx=>Z2) (show PZ Er _ H (chk (as.length<=sizeLine) (.ok as)) from P)
  obtain⟨h1,h2⟩:=Zc hc
  cases h2
  exact⟨by rw[Paired.len p];exact h1,Br (w.keep s1) p (FO.tr _ _ _ s1 P3)⟩
theorem QU {ta tb:TE}{r:Enc α}{q:Enc β}[z:MonoE r][y:MonoE q]{ma:Rs α}{mb:Rs β}(ha:EvS K Er S OO σ ta r ma)(hb:EvS K Er S OO σ tb q mb):EvS K Er S OO σ (HW (XA ta (XA tb Zy))) (rP2 r q) (ma.bind λa=>mb.bind λb=>.ok (a,b)):=λH Q w s P=>
 ha.run w s FS.tr P λa x H1 s1 w1 q1 r1 P1=>hb.run w1 q1 FS.tr P1 λb y' H2 s2 w2 q2 r2 P2=>
  ⟨by show 2<=sizeLine;decide,λp hp=>P2 _ _ (Zq hp _) ⟨p,x,y',rfl,KL w2 hp,z.mono ((Xj s2).trans (Xj (Zq hp _))) r1,y.mono (Xj (Zq hp _)) r2⟩⟩
end
section
variable {K:PySem.W.Frag}{Er:Exc->Hp->Prop}{S:SC}{OO OO' OO2:List (List Xr)}{σ:St}{α β γ ρ ι:Type}{α1 α2 α3 α4 α5 α6:Type}
noncomputable def noE (m:Rs α):Rs α:=match m with
 | .ok a=>.ok a
 |_=>.bad
theorem Kx {m:Rs α}{a:α}(h:noE m= .ok a):m= .ok a:=by
 cases m with
 |ok b=>exact h
 |bad=>cases h
 |err x=>cases h
theorem Kv {m:Rs α}{x:Exc}:noE m≠ .err x:=by cases m<;> exact λz=>nomatch z
noncomputable def FF (K:PySem.W.Frag)(o:OE α)(Q:VK)(a:α)(H:Hp):Prop:=∀ v C H',W [C] H'->Xp H (hid H' [C])->o K (hid H' [C]) v a C->Q v H'
noncomputable def sp1 (r1:Enc α1)(o:OE ρ)(f:α1->Rs ρ)(K:PySem.W.Frag):Sp:=λvs H Q _=>∃ v1 a1 b,vs=[v1]/\r1 K H v1 a1/\f a1= .ok b/\FF K o Q b H
noncomputable def sp2 (r1:Enc α1)(r2:Enc α2)(o:OE ρ)(f:α1->α2->Rs ρ)(K:PySem.W.Frag):Sp:=λvs H Q _=>∃ v1 v2 a1 a2 b,vs=[v1,v2]/\r1 K H v1 a1/\r2 K H v2 a2/\f a1 a2= .ok b/\FF K o Q b H
noncomputable def sp3 (r1:Enc α1)(r2:Enc α2)(r3:Enc α3)(o:OE ρ)(f:α1->α2->α3->Rs ρ)(K:PySem.W.Frag):Sp:=λvs H Q _=>∃ v1 v2 v3 a1 a2 a3 b,vs=[v1,v2,v3]/\r1 K H v1 a1/\r2 K H v2 a2/\r3 K H v3 a3/\f a1 a2 a3= .ok b/\FF K o Q b H
noncomputable def sp5 (r1:Enc α1)(r2:Enc α2)(r3:Enc α3)(r4:Enc α4)(r5:Enc α5)(o:OE ρ)(f:α1->α2->α3->α4->α5->Rs ρ)(K:PySem.W.Frag):Sp:=λvs H Q _=>∃ v1 v2 v3 v4 v5 a1 a2 a3 a4 a5 b,vs=[v1,v2,v3,v4,v5]/\r1 K H v1 a1/\r2 K H v2 a2/\r3 K H v3 a3/\r4 K H v4 a4/\r5 K H v5 a5/\f a1 a2 a3 a4 a5= .ok b/\FF K o Q b H
theorem Ik {C:List Xr}{H H':Hp}(w:W OO H)(w':W [C] H')(m':Xp H (hid H' [C])):W (C::OO) H'/\Xp (hid H OO) (hid H' (C::OO))/\QP (hid H' [C]) (hid H' (C::OO)):=by
 have s:Xp H H':=m'.trans XD
 have f1:fl [C]=C.map (·.1):=by simp[fl]
 have hd:∀b,b∈fl OO->b∉C.map (·.1):=λb hb hc=>by
  obtain⟨u,hu⟩:=GM hb
  exact(XW (m' _ _ (w.tr _ hu))).2 (by rw[f1];exact hc)
 have w2:W (C::OO) H':=by
  refine⟨λc hc=>?_,?_,λc hc=>?_⟩
  ·rw[List.flatten_cons,List.mem_append] at hc
   rcases hc with hc |hc
   ·exact w'.tr c (by simp[hc])
   ·exact s _ _ (w.tr c hc)
  ·rw[X6]
   refine List.nodup_append.mpr ⟨by rw[←f1];exact w'.nd,w.nd,λa ha b hb e=>?_⟩
   subst e;exact hd a hb ha
  ·rw[List.flatten_cons,List.mem_append] at hc
   rcases hc with hc |hc
   ·exact w'.mu c (by simp[hc])
   ·exact w.mu c hc
 refine⟨w2,λb u q=>?_,λb u q i=>?_⟩
 ·obtain⟨q1,q2⟩:=XW q
  obtain⟨q3,q4⟩:=XW (m' _ _ q1)
  refine Zm q3 ?_
  rw[X6,List.mem_append]
  exact λz=>z.elim (λz=>q4 (by rw[f1];exact z)) q2
 ·exact w2.i b u (XW q).1 i
theorem Jj {o:OE α}[z:FlatO o]{Q:VK}{b:α}{H:Hp}(w:W OO H)(P:FO K OO OO o Q b H):FF K o Q b H:=λv C H' w' m' ho=>by
 obtain⟨w2,h2,h3⟩:=Ik w w' m'
 exact P v C H' (m'.trans XD) w2 h2 (z.flat h3 ho)
theorem XX {ta:TE}{r1:Enc α1}{o:OE ρ}[FlatO o]{f:α1->Rs ρ}{ma:Rs α1}(ha:EvB K Er S OO σ ta r1 ma):Ev K Er S OO OO σ (Um (sp1 r1 o f K) [] E0 (XA ta Zy)) o (ma.bind λa=>noE (f a)):=λH Q w s P=>
 ha.run w s FO.tr P λa x H1 s1 w1 q1 r1 P1=>by
  obtain⟨b,hb,P2⟩:=P1.okOf λx=>Kv
  exact⟨x,a,b,rfl,r1,Kx hb,Jj w1 P2⟩
theorem Yt {ta tb:TE}{r1:Enc α1}{r2:Enc α2}[z1:MonoE r1]{o:OE ρ}[FlatO o]{f:α1->α2->Rs ρ}{ma:Rs α1}{mb:Rs α2}(ha:EvB K Er S OO σ ta r1 ma)(hb:EvB K Er S OO σ tb r2 mb):
  Ev K Er S OO OO σ (Um (sp2 r1 r2 o f K) [] E0 (XA ta (XA tb Zy))) o (ma.bind λa=>mb.bind λb=>noE (f a b)):=λH Q w s P=>
 ha.run w s FO.tr P λa x H1 s1 w1 q1 r1 P1=>hb.run w1 q1 FO.tr P1 λb y H2 s2 w2 q2 r2 P2=>by
  obtain⟨c,hc,P3⟩:=P2.okOf λx=>Kv
  exact⟨x,y,a,b,c,rfl,z1.mono s2 r1,r2,Kx hc,Jj w2 P3⟩
theorem ZS {ta tb tc:TE}{r1:Enc α1}{r2:Enc α2}{r3:Enc α3}[z1:MonoE r1][z2:MonoE r2]{o:OE ρ}[FlatO o]{f:α1->α2->α3->Rs ρ}{ma:Rs α1}{mb:Rs α2}{mc:Rs α3}(ha:EvB K Er S OO σ ta r1 ma)(hb:EvB K Er S OO σ tb r2 mb)(hc:EvB K Er S OO σ tc r3 mc):
  Ev K Er S OO OO σ (Um (sp3 r1 r2 r3 o f K) [] E0 (XA ta (XA tb (XA tc Zy)))) o (ma.bind λa=>mb.bind λb=>mc.bind λc=>noE (f a b c)):=λH Q w s P=>
 ha.run w s FO.tr P λa x H1 s1 w1 q1 r1 P1=>hb.run w1 q1 FO.tr P1 λb y H2 s2 w2 q2 r2 P2=>hc.run w2 q2 FO.tr P2 λc z H3 s3 w3 q3 r3 P3=>by
  obtain⟨d,hd,P4⟩:=P3.okOf λx=>Kv
  exact⟨x,y,z,a,b,c,d,rfl,z1.mono (s2.trans s3) r1,z2.mono s3 r2,r3,Kx hd,Jj w3 P4⟩
theorem Cm {ta tb tc td te:TE}{r1:Enc α1}{r2:Enc α2}{r3:Enc α3}{r4:Enc α4}{r5:Enc α5}[z1:MonoE r1][z2:MonoE r2][z3:MonoE r3][z4:MonoE r4]{o:OE ρ}[FlatO o]{f:α1->α2->α3->α4->α5->Rs ρ}{ma:Rs α1}{mb:Rs α2}{mc:Rs α3}{md:Rs α4}{me:Rs α5}(ha:EvB K Er S OO σ ta r1 ma)(hb:EvB K Er S OO σ tb r2 mb)(hc:EvB K Er S OO σ tc r3 mc)(hd:EvB K Er S OO σ td r4 md)(he:EvB K Er S OO σ te r5 me):
  Ev K Er S OO OO σ (Um (sp5 r1 r2 r3 r4 r5 o f K) [] E0 (XA ta (XA tb (XA tc (XA td (XA te Zy)))))) o (ma.bind λa=>mb.bind λb=>mc.bind λc=>md.bind λd=>me.bind λe=>noE (f a b c d e)):=λH Q w s P=>
 ha.run w s FO.tr P λa x H1 s1 w1 q1 r1 P1=>hb.run w1 q1 FO.tr P1 λb y H2 s2 w2 q2 r2 P2=>hc.run w2 q2 FO.tr P2 λc z H3 s3 w3 q3 r3 P3=>hd.run w3 q3 FO.tr P3 λd u H4 s4 w4 q4 r4 P4=>he.run w4 q4 FO.tr P4 λe t H5 s5 w5 q5 r5 P5=>by
  obtain⟨g,hg,P6⟩:=P5.okOf λx=>Kv
  exact⟨x,y,z,u,t,a,b,c,d,e,g,rfl,z1.mono (s2.trans (s3.trans (s4.trans s5))) r1,z2.mono (s3.trans (s4.trans s5)) r2,z3.mono (s4.trans s5) r3,z4.mono s5 r4,r5,Kx hg,Jj w5 P6⟩
structure Jn (γ ι:Type) where
 oo:ι->List (List Xr)
 ss:ι->St
 sc:γ->ι->SC
inductive Ctl (ρ γ:Type) where
 |ret (r:ρ) |nx (g:γ)
noncomputable def FTd (K:PySem.W.Frag)(o:OE ρ)(D:Ends)(r:ρ)(h:Hp):Prop:=∀ v C OO' H',W (C::OO') H'->Xp h (hid H' (C::OO'))->o K (hid H' (C::OO')) v r C->D.rt v H'
noncomputable def FNd (J:Jn γ ι)(D:Ends)(g:γ)(h:Hp):Prop:=∀ x H',W (J.oo x) H'->Xp h (hid H' (J.oo x))->(J.sc g x).p (hid H' (J.oo x))->D.nx (J.ss x) H'
noncomputable def FCd (K:PySem.W.Frag)(o:OE ρ)(J:Jn γ ι)(D:Ends)(c:Ctl ρ γ)(h:Hp):Prop:=match c with
 | .ret r=>FTd K o D r h
 | .nx g=>FNd J D g h
class FdOk (Fd:Ends->β->Hp->Prop):Prop where
 tr:∀D b h h',Xp h h'->Fd D b h->Fd D b h'
instance {o:OE ρ}:FdOk (FTd K o):=⟨λD b h h' s q v C O H' w m x=>q v C O H' w (s.trans m) x⟩
instance {J:Jn γ ι}:FdOk (FNd J):=⟨λD b h h' s q x H' w m y=>q x H' w (s.trans m) y⟩
instance {o:OE ρ}{J:Jn γ ι}:FdOk (FCd K o J):=⟨λD b h h' s q=>by
 cases b with
 |ret r=>exact λv C O H' w m x=>q v C O H' w (s.trans m) x
 |nx g=>exact λx H' w m y=>q x H' w (s.trans m) y⟩
theorem PZ.tr {F:β->Hp->Prop}(hF:∀b H H',Xp H H'->F b H->F b H'){H H':Hp}{m:Rs β}(s:Xp H H')(P:PZ Er F H m):PZ Er F H' m:=by
 cases m with
 |bad=>exact P
 |err x=>exact λH2 s2=>P H2 (s.trans s2)
 |ok b=>exact hF b H H' s P
noncomputable def Sv (Er:Exc->Hp->Prop)(S:SC)(OO:List (List Xr))(σ:St)(t:TS)(Fd:Ends->β->Hp->Prop)(m:Rs β):Prop:=∀ H D,W OO H->S.p (hid H OO)->PZ Er (Fd D) (hid H OO) m->t D σ H
variable {Fd:Ends->β->Hp->Prop}[fd:FdOk Fd]{u:TS}
theorem Ev.st {te:TE}{o:OE α}{m:Rs α}(he:Ev K Er S OO OO' σ te o m){H:Hp}{D:Ends}{Q:VK}(w:W OO H)(s:S.p (hid H OO)){f:α->Rs β}(P:PZ Er (Fd D) (hid H OO) (m.bind f))
  (hk:∀a v C H',W (C::OO') H'->S.p (hid H' (C::OO'))->o K (hid H' (C::OO')) v a C->PZ Er (Fd D) (hid H' (C::OO')) (f a)->Q v H'):te σ H Q:=by
 refine he H Q w s ?_
 cases m with
 |bad=>exact P
 |err x=>exact λH' s'=>P H' (XD.trans s')
 |ok a=>exact λv C H' s' w' m' ho=>hk a v C H' w' (S.mono _ _ m' s) ho (PZ.tr (fd.tr D) m' P)
theorem EvB.st {te:TE}{r:Enc α}{m:Rs α}(he:EvB K Er S OO σ te r m){H:Hp}{D:Ends}{Q:VK}(w:W OO H)(s:S.p (hid H OO)){f:α->Rs β}(P:PZ Er (Fd D) (hid H OO) (m.bind f))
  (hk:∀a v H',Xp H H'->W OO H'->S.p (hid H' OO)->r K H' v a->PZ Er (Fd D) (hid H' OO) (f a)->Q v H'):te σ H Q:=by
 refine he H Q w s ?_
 cases m with
 |bad=>exact P
 |err x=>exact λH' s'=>P H' (XD.trans s')
 |ok a=>exact λv H' s' hr=>hk a v H' s' (w.keep s') (S.mono _ _ (Xj s') s) hr (PZ.tr (fd.tr D) (Xj s') P)
theorem EvS.st {te:TE}{r:Enc α}{m:Rs α}(he:EvS K Er S OO σ te r m){H:Hp}{D:Ends}{Q:VK}(w:W OO H)(s:S.p (hid H OO)){f:α->Rs β}(P:PZ Er (Fd D) (hid H OO) (m.bind f))
  (hk:∀a v H',Xp H H'->W OO H'->S.p (hid H' OO)->r K (hid H' OO) v a->PZ Er (Fd D) (hid H' OO) (f a)->Q v H'):te σ H Q:=by
 refine he H Q w s ?_
 cases m with
 |bad=>exact P
 |err x=>exact λH' s'=>P H' (XD.trans s')
 |ok a=>exact λv H' s' hr=>hk a v H' s' (w.keep s') (S.mono _ _ (Xj s') s) hr (PZ.tr (fd.tr D) (Xj s') P)
theorem EvT.st {tt:TT}{m:Rs Bool}(he:EvT Er S OO σ tt m){H:Hp}{D:Ends}{Q:Bool->Hp->Prop}(w:W OO H)(s:S.p (hid H OO)){f:Bool->Rs β}(P:PZ Er (Fd D) (hid H OO) (m.bind f))
  (hk:∀b H',W OO H'->S.p (hid H' OO)->PZ Er (Fd D) (hid H' OO) (f b)->Q b H'):tt σ H Q:=by
 refine he H Q w s ?_
 cases m with
 |bad=>exact P
 |err x=>exact λH' s'=>P H' (XD.trans s')
 |ok a=>exact λH' s'=>hk a H' (w.keep s') (S.mono _ _ (Xj s') s) (PZ.tr (fd.tr D) (Xj s') P)
theorem set_set {OO:List (List Xr)}{k:Nat}{C:List Xr}:(OO.set k C).set k []=OO.set k []:=by simp
theorem IM {C:List Xr}{H:Hp}{k:Nat}(w:W (C::OO) H)(hk:k<OO.length):W (OO.set k C) H/\Xp (hid H (C::OO)) (hid H (OO.set k C)):=by
 have h1:=XR (OO:=OO) (k:=k) (C:=OO[k]) (by simp[hk])
 have h2:=XR (OO:=OO.set k C) (k:=k) (C:=C) (by simp[hk])
 rw[set_set] at h2
 have h3:(OO.set k C).flatten.Perm (C++(OO.set k []).flatten):=by simpa using h2.symm
 have h4:(C::OO).flatten.Perm (C++(OO[k]++(OO.set k []).flatten)):=by
  rw[List.flatten_cons];exact(by simpa using h1.symm:OO.flatten.Perm (OO[k]++(OO.set k []).flatten)).append_left C
 have h5:(C++(OO.set k []).flatten).Sublist (C++(OO[k]++(OO.set k []).flatten)):=List.Sublist.append (List.Sublist.refl _) (List.sublist_append_right _ _)
 have w1:W [C++(OO[k]++(OO.set k []).flatten)] H:=w.of (by simpa using h4.symm)
 have w2:W [C++(OO.set k []).flatten] H:=w1.sub (by simpa using h5)
 refine⟨w2.of (by simpa using h3),Vm (Xp.refl _) λb hb=>?_⟩
 obtain⟨o,ho⟩:=GM hb
 exact JU (h4.mem_iff.mpr (h5.mem (h3.mem_iff.mp ho)))
theorem YL {te:TE}{o:OE α}[MonoO o]{m:Rs α}{f:α->Rs β}(i k:Nat)(he:Ev K Er S OO OO' σ te o m)(hk:k<OO'.length)(hr:∀a v C,Sv Er (S.addO K o v a C) (OO'.set k C) (σ.set i (some v)) u Fd (f a)):Sv Er S OO σ (ZQ (GV te (QC i)) u) Fd (m.bind f):=λH D w s P=>
 he.st w s P λa v C H' w' s' ho P'=>by
  obtain⟨w2,h2⟩:=IM w' hk
  exact hr a v C H' D w2 ⟨S.mono _ _ h2 s',MonoO.mono h2 ho⟩ (PZ.tr (fd.tr D) h2 P')
theorem XO {te:TE}{r:Enc α}[MonoE r]{m:Rs α}{f:α->Rs β}(i:Nat)(he:EvS K Er S OO σ te r m)(hr:∀a v,Sv Er (S.add K r v a) OO (σ.set i (some v)) u Fd (f a)):Sv Er S OO σ (ZQ (GV te (QC i)) u) Fd (m.bind f):=λH D w s P=>
 he.st w s P λa v H' s1 w' s' ho P'=>hr a v H' D w' ⟨s',ho⟩ P'
theorem Xu {te:TE}{o:OE ρ}{m:Rs ρ}(he:Ev K Er S OO OO' σ te o m):Sv Er S OO σ (ZQ (IB te) u) (FTd K o) m:=λH D w s P=>
 he H _ w s (by
  cases m with
  |bad=>exact P
  |err x=>exact λH' s'=>P H' (XD.trans s')
  |ok a=>exact λv C H' s' w' m' ho=>P v C OO' H' w' m' ho)
theorem Fu {J:Jn γ ι}{t:TS}{o:OE ρ}{m:Rs γ}(h:Sv Er S OO σ t (FNd J) m):Sv Er S OO σ t (FCd K o J) (m.bind λr=>.ok (.nx r)):=λH D w s P=>h H D w s (by
 cases m with
 |bad=>exact P
 |err x=>exact P
 |ok a=>exact P)
theorem XJ {J:Jn γ ι}(x:ι)(g:γ)(h1:OO=J.oo x)(h2:σ=J.ss x)(h3:∀h,S.p h->(J.sc g x).p h):Sv Er S OO σ Q9 (FNd J) (.ok g):=λH D w s P=>by
 subst h1 h2
 exact P x H w (Xp.refl _) (h3 _ s)
theorem Yg {o:OE ρ}{c:TT}{t1:TS}{mc:Rs Bool}{m1 m2:Rs ρ}(hc:EvT Er S OO σ c mc)(h1:Sv Er S OO σ t1 (FTd K o) m1)(h2:Sv Er S OO σ u (FTd K o) m2):Sv Er S OO σ (ZQ (Eg c t1 Q9) u) (FTd K o) (mc.bind λb=>if b=true then m1 else m2):=λH D w s P=>
 hc.st (Fd:=FTd K o) w s P λb H' w' s' P'=>by
  cases b with
  |true=>rw[if_pos rfl] at P'⊢;exact h1 H' _ w' s' P'
  |false=>exact h2 H' D w' s' P'
theorem U9 {o:OE ρ}{J:Jn γ ι}{c:TT}{t1:TS}{mc:Rs Bool}{m1:Rs ρ}{m2:Rs (Ctl ρ γ)}(hc:EvT Er S OO σ c mc)(h1:Sv Er S OO σ t1 (FTd K o) m1)(h2:Sv Er S OO σ u (FCd K o J) m2):Sv Er S OO σ (ZQ (Eg c t1 Q9) u) (FCd K o J) (mc.bind λb=>if b=true then m1.bind (λr=>.ok (.ret r)) else m2):=λH D w s P=>
 hc.st (Fd:=FCd K o J) w s P λb H' w' s' P'=>by
  cases b with
  |true=>
   rw[if_pos rfl] at P'⊢
   refine h1 H' _ w' s' ?_
   cases m1 with
   |bad=>exact P'
   |err x=>exact P'
   |ok a=>exact P'
  |false=>exact h2 H' D w' s' P'
theorem Qj {c:TT}{t1 t2:TS}{mc:Rs Bool}{m1 m2:Rs β}(hc:EvT Er S OO σ c mc)(h1:Sv Er S OO σ t1 Fd m1)(h2:Sv Er S OO σ t2 Fd m2):Sv Er S OO σ (Eg c t1 t2) Fd (mc.bind λb=>if b=true then m1 else m2):=λH D w s P=>
 hc.st w s P λb H' w' s' P'=>by
  cases b with
  |true=>rw[if_pos rfl] at P'⊢;exact h1 H' _ w' s' P'
  |false=>exact h2 H' D w' s' P'
theorem ZC {J:Jn γ ι}{t:TS}{m:Rs γ}{f:γ->Rs β}(hb:Sv Er S OO σ t (FNd J) m)(hr:∀g x,Sv Er (J.sc g x) (J.oo x) (J.ss x) u Fd (f g)):Sv Er S OO σ (ZQ t u) Fd (m.bind f):=λH D w s P=>
 hb H _ w s (by
  cases m with
  |bad=>exact P
  |err x=>exact P
  |ok g=>exact λx H' w' m' q=>hr g x H' D w' q (PZ.tr (fd.tr D) m' P))
noncomputable def VB (f:γ->Rs ρ):Ctl ρ γ->Rs ρ
 | .ret r=>.ok r
 | .nx g=>f g
noncomputable def QK {δ:Type}(f:γ->Rs (Ctl ρ δ)):Ctl ρ γ->Rs (Ctl ρ δ)
 | .ret r=>.ok (.ret r)
 | .nx g=>f g
theorem Sv.weak {S2:SC}{t:TS}{m:Rs β}(h:Sv Er S2 OO σ t Fd m)(hs:∀x,S.p x->S2.p x):Sv Er S OO σ t Fd m:=λH D w s P=>h H D w (hs _ s) P
theorem IG {C D C':List Xr}{H:Hp}{k:Nat}{p:Addr}{o:HO}(w:W (D::OO) H)(hk:OO[k]?=some C)(hp:p∈C.map (·.1))(hC:(C'.map (·.1)).Perm ((C++D).map (·.1)))(ht:∀c∈C',upd H p o c.1=some c.2)(hm:∀c∈C',EI c.2=true):
  W (OO.set k C') (upd H p o)/\hid (upd H p o) (OO.set k C')=hid H (D::OO):=by
 have hlt:k<OO.length:=by
  rcases Nat.lt_or_ge k OO.length with h |h
  ·exact h
  ·rw[List.getElem?_eq_none h] at hk;cases hk
 have h1:=XR hk
 have h2:=XR (OO:=OO.set k C') (k:=k) (C:=C') (by simp[hlt])
 rw[set_set] at h2
 have h3:(OO.set k C').flatten.Perm (C'++(OO.set k []).flatten):=by simpa using h2.symm
 have h4:(D::OO).flatten.Perm (D++(C++(OO.set k []).flatten)):=by
  rw[List.flatten_cons];exact(by simpa using h1.symm:OO.flatten.Perm (C++(OO.set k []).flatten)).append_left D
 have hfl:(fl (OO.set k C')).Perm (fl (D::OO)):=by
  unfold fl
  refine(h3.map _).trans (List.Perm.trans ?_ (h4.map _).symm)
  simp only[List.map_append]
  refine(hC.append_right _).trans ?_
  simp only[List.map_append]
  rw[←List.append_assoc]
  exact List.perm_append_comm.append_right _
 have nd:=w.nd
 refine⟨⟨λc hc=>?_,hfl.nodup_iff.mpr nd,λc hc=>?_⟩,?_⟩
 ·rcases List.mem_append.mp (h3.mem_iff.mp hc) with hc |hc
  ·exact ht c hc
  ·have hne:c.1≠p:=λe=>by
    have nd2:((D++(C++(OO.set k []).flatten)).map (·.1)).Nodup:=(h4.map _).nodup_iff.mp nd
    simp only[List.map_append] at nd2
    have nd3:=(List.nodup_append.mp nd2).2.1
    exact(List.nodup_append.mp nd3).2.2 p hp c.1 (List.mem_map.mpr ⟨c,hc,rfl⟩) e.symm
   rw[Xw hne]
   exact w.tr c (h4.mem_iff.mpr (by simp[hc]))
 ·rcases List.mem_append.mp (h3.mem_iff.mp hc) with hc |hc
  ·exact hm c hc
  ·exact w.mu c (h4.mem_iff.mpr (by simp[hc]))
 ·funext b
  unfold hid
  by_cases hb:b∈fl (D::OO)
  ·rw[if_pos hb,if_pos (hfl.mem_iff.mpr hb)]
  ·rw[if_neg hb,if_neg λz=>hb (hfl.mem_iff.mp z)]
   refine Xw λe=>hb ?_
   rw[e]
   obtain⟨c,hc,rfl⟩:=List.mem_map.mp hp
   exact JU (h4.mem_iff.mpr (by simp[hc]))
theorem Ys {Cs:List (List Xr)}{D:List Xr}:(Cs++[D]).flatten=Cs.flatten++D:=by simp
theorem QE {ta:TE}{o:OE α}[MonoO o]{m:Rs α}{f:List α->Rs β}{v:V}{as:List α}{C:List Xr}(i k:Nat)(hσ:σ[i]?=some (some v))(hk:OO[k]?=some C)(hk':OO'[k]?=some C)(h:∀x,S.p x->oL o K x v as C)(he:Ev K Er S OO OO' σ ta o m)
  (hr:∀a C',Sv Er (S.addO K (oL o) v (as++[a]) C') (OO'.set k C') σ u Fd (f (as++[a]))):Sv Er S OO σ (ZQ (UG (tBM K "list" Z4 (VM i) (XA ta Zy))) u) Fd (m.bind λa=>chk (as.length<sizeLine) (f (as++[a]))):=λH D w s P=>by
 obtain⟨p,xs,Cs,e,q,c⟩:=h _ s
 subst c
 have hH:H p=some (.lst xs):=w.tr (p, .lst xs) (List.mem_flatten.mpr ⟨_,List.mem_of_getElem? hk,List.mem_cons_self⟩)
 refine⟨v,hσ,by rw[e];exact .inl ⟨rfl,_,SqL.of hH⟩,he.st w s P λa y D' H' w' s' ho P'=>?_⟩
 obtain⟨p',xs',Cs',e2,q2,c2⟩:=h _ s'
 rw[e] at e2;cases e2
 have c3:(p,HO.lst xs)=(p,HO.lst xs')/\Cs.flatten=Cs'.flatten:=by
  injection c2 with h1 h2
  exact⟨h1,h2⟩
 obtain⟨c3,c4⟩:=c3
 cases c3
 have hH':H' p=some (.lst xs):=w'.tr (p, .lst xs) (by rw[List.flatten_cons];exact List.mem_append_right _ (List.mem_flatten.mpr ⟨_,List.mem_of_getElem? hk',List.mem_cons_self⟩))
 cases hlt:decide (as.length<sizeLine) with
 |false=>rw[chk,if_neg (by simpa using hlt)] at P';exact P'.elim
 |true=>
  have hlt':as.length<sizeLine:=by simpa using hlt
  rw[Xq hlt'] at P'
  have wnd:=w'.nd
  have hcell:∀c∈(p,HO.lst (xs++[y]))::(Cs'++[D']).flatten,upd H' p (.lst (xs++[y])) c.1=some c.2:=λc hc=>by
   rcases List.mem_cons.mp hc with rfl |hc
   ·exact Yf
   ·have hp1:=XR hk'
    have w3:W [D'++(((p,HO.lst xs)::Cs.flatten)++(OO'.set k []).flatten)] H':=w'.of (by
     simp only[List.flatten_cons,List.flatten_nil,List.append_nil]
     exact(by simpa using hp1:(((p,HO.lst xs)::Cs.flatten)++(OO'.set k []).flatten).Perm OO'.flatten).append_left D')
    have hin:c∈D'++(((p,HO.lst xs)::Cs.flatten)++(OO'.set k []).flatten):=by
     rw[Ys,List.mem_append] at hc
     rcases hc with hc |hc
     ·rw[←c4] at hc;simp[hc]
     ·simp[hc]
    have hne:c.1≠p:=λee=>by
     have nd3:=w3.nd
     rw[Ys,List.mem_append, ←c4] at hc
     simp only[fl,List.flatten_cons,List.flatten_nil,List.append_nil,List.map_append,List.cons_append,List.map_cons] at nd3
     rw[List.nodup_append] at nd3
     obtain⟨_,n2,n3⟩:=nd3
     rcases hc with hc |hc
     ·exact(List.nodup_cons.mp n2).1 (List.mem_append_left _ (List.mem_map.mpr ⟨c,hc,ee⟩))
     ·exact n3 c.1 (List.mem_map.mpr ⟨c,hc,rfl⟩) p List.mem_cons_self ee
    rw[Xw hne]
    exact w3.tr c (by simpa using hin)
  obtain⟨w4,h4⟩:=IG (C':=(p, .lst (xs++[y]))::(Cs'++[D']).flatten) w' hk' List.mem_cons_self (by simp[Ys,c4]) hcell (λc hc=>by
   rcases List.mem_cons.mp hc with rfl |hc
   ·rfl
   ·rw[Ys,List.mem_append, ←c4] at hc
    rcases hc with hc |hc
    ·exact w'.mu c (by rw[List.flatten_cons];exact List.mem_append_right _ (List.mem_flatten.mpr ⟨_,List.mem_of_getElem? hk',List.mem_cons_of_mem _ hc⟩))
    ·exact w'.mu c (by rw[List.flatten_cons];exact List.mem_append_left _ hc))
  refine⟨p,xs,y,e,rfl,hH',by rw[(P3.len q).1];exact hlt',?_⟩
  refine hr a _ _ D w4 ?_ (by rw[h4];exact P')
  rw[h4]
  exact⟨s',⟨p,xs++[y],Cs'++[D'],e,q2.snoc ho,rfl⟩⟩
end
section
variable {K:PySem.W.Frag}{Er:Exc->Hp->Prop}{S:SC}{OO OO' OO2:List (List Xr)}{σ:St}{α β γ ρ ι δ ε:Type}
variable {Fd:Ends->β->Hp->Prop}[fd:FdOk Fd]{u:TS}
noncomputable def forN:List α->γ->(γ->α->Rs γ)->Rs γ
 | [],g,_=>.ok g
 |a::as,g,f=>(f g a).bind λg'=>forN as g' f
noncomputable def forC:List α->γ->(γ->α->Rs (Ctl ρ γ))->Rs (Ctl ρ γ)
 | [],g,_=>.ok (.nx g)
 |a::as,g,f=>(f g a).bind λc=>match c with
  | .ret r=>.ok (.ret r)
  | .nx g'=>forC as g' f
theorem Ya {m:Rs α}{f:α->Rs β}{g:β->Rs γ}:(m.bind f).bind g=m.bind λa=>(f a).bind g:=by cases m<;> rfl
structure Tgt (K:PySem.W.Frag)(OO:List (List Xr))(g:TG)(r:Enc α)(κ:Type) where
 set:κ->St->St
 sc:α->κ->SC->SC
 ok:∀{H:Hp}{v:V}{a:α}{σ:St}{S:SC}{Q:St->Hp->Prop},r K (hid H OO) v a->S.p (hid H OO)->(∀x,(sc a x S).p (hid H OO)->Q (set x σ) H)->g v σ H Q
noncomputable def tg1 {r:Enc α}[MonoE r](i:Nat):Tgt K OO (QC i) r V where
 set:=λv σ=>σ.set i (some v)
 sc:=λa v S=>S.add K r v a
 ok:=fun {H v a σ S Q} hr hs hq=>hq v ⟨hs,hr⟩
structure Walk (K:PySem.W.Frag)(Er:Exc->Hp->Prop)(S:SC)(OO:List (List Xr))(σ:St)(wi:TI)(r:Enc α)(m:Rs (List α)):Prop where
 ok:∀{H:Hp}{R:It->Hp->Prop},W OO H->S.p (hid H OO)->PZ Er (λas H=>∀ J H',Xp H H'->
   (∀(i:Nat) a,as[i]?=some a->∀OO2 H2,W OO2 H2->Xp (hid H' OO) (hid H2 OO2)->J.go i H2/\∀x H3,J.yld i H2 x H3->Xp H2 H3/\r K (hid H3 OO2) x a)->
   (∀OO2 H2,W OO2 H2->Xp (hid H' OO) (hid H2 OO2)->J.stop as.length H2)->R J H') H m->wi σ H R
theorem XI {te:TE}{r:Enc α}[z:MonoE r]{m:Rs (List α)}(he:EvS K Er S OO σ te (rV r) m):Walk K Er S OO σ (Ci K te) r m:=⟨fun {H R} w s P=>by
 refine he H _ w s (P.imp λas _ h v H' s' ⟨p,xs,e,hp,pr⟩=>⟨p,e,⟨xs,SqL.of (XD _ _ hp)⟩,h _ H' s' ?_ ?_⟩)
 ·intro i a ha OO2 H2 w2 m2
  obtain⟨x,hx,rx⟩:=Paired.getR pr ha
  have hq:SqL K H2 p xs:=SqL.of (XD _ _ (m2 _ _ hp))
  refine⟨⟨xs,x,hq,hx⟩,λy H3 r9=>?_⟩
  obtain⟨e3,hy⟩:=r9
  subst e3
  refine⟨Xp.refl _,?_⟩
  have:=hy xs hq
  rw[hx] at this
  cases this
  exact z.mono m2 rx
 ·intro OO2 H2 w2 m2
  exact⟨xs,SqL.of (XD _ _ (m2 _ _ hp)),by rw[Paired.len pr];exact Nat.le_refl _⟩⟩
theorem Gh {lo hi:Int}{i:Nat}{a:Int}(h:(ZK lo hi)[i]?=some a):a=lo+i/\i<(hi-lo).toNat:=by
 unfold ZK at h
 rw[List.getElem?_map] at h
 rcases Nat.lt_or_ge i (hi-lo).toNat with q |q
 ·rw[List.getElem?_range q] at h;exact⟨(Option.some.inj h).symm,q⟩
 ·rw[List.getElem?_eq_none (by simpa using q)] at h;cases h
theorem GD {lo hi:Int}:(ZK lo hi).length=(hi-lo).toNat:=by simp[ZK]
noncomputable def GF (lo hi:Int):Rs (List Int):=chk (-(2^62)<=lo/\lo<2^62/\ -(2^62)<=hi/\hi<2^62) (.ok (ZK lo hi))
theorem X5 {te:TE}{m:Rs Int}(he:EvB K Er S OO σ te Xd m):Walk K Er S OO σ (EX (XA te Zy)) Xd (m.bind λn=>GF 0 n):=⟨fun {H R} w s P=>
 he.run w s (λas H H' s' h J H2 s2=>h J H2 (s'.trans s2)) P λn v H1 s1 w1 q1 r1 P1=>by
  obtain⟨c,hc,P2⟩:=P1.okOf λx=>Z2
  obtain⟨⟨_,_,h1,h2⟩,h3⟩:=Zc hc
  cases h3
  refine⟨n,by rw[show v= .int n from r1],h1,h2,P2 _ H1 (Xp.refl _) (λi a ha OO2 H2 w2 m2=>?_) λOO2 H2 w2 m2=>?_⟩
  ·obtain⟨e1,e2⟩:=Gh ha
   rw[Int.sub_zero] at e2
   refine⟨e2,λx H3 r9=>?_⟩
   obtain⟨e3,e4⟩:=r9
   subst e3
   exact⟨Xp.refl _,by rw[e4,e1];rfl⟩
  ·show n.toNat<=_
   rw[GD,Int.sub_zero];exact Nat.le_refl _⟩
theorem Z1 {wi:TI}{g:TG}{tb:TS}{r:Enc α}{κ:Type}{m:Rs (List α)}{body:γ->α->Rs γ}{f:γ->Rs β}(J:Jn γ ι)(T:∀OO,Tgt K OO g r κ)(x0:ι)(g0:γ)(he:Walk K Er S OO σ wi r m)(h1:OO=J.oo x0)(h2:σ=J.ss x0)(h3:∀h,S.p h->(J.sc g0 x0).p h)
  (hb:∀g x a v,Sv Er ((T (J.oo x)).sc a v (J.sc g x)) (J.oo x) ((T (J.oo x)).set v (J.ss x)) tb (FNd J) (body g a))
  (hr:∀g x,Sv Er (J.sc g x) (J.oo x) (J.ss x) u Fd (f g)):Sv Er S OO σ (ZQ (Ht wi g tb) u) Fd (m.bind λas=>(forN as g0 body).bind f):=λH D w s P=>by
 refine he.ok w s ?_
 cases em:m with
 |bad=>rw[em] at P;exact P
 |err x=>rw[em] at P;exact λH' s'=>P H' (XD.trans s')
 |ok as=>
  rw[em] at P
  have P:PZ Er (Fd D) (hid H OO) ((forN as g0 body).bind f):=P
  intro It H' s' hgo hstop
  refine⟨λi mm σ' H2=>mm=as.length-i/\i<=as.length/\∃x gg,σ'=J.ss x/\W (J.oo x) H2/\Xp (hid H' OO) (hid H2 (J.oo x))/\(J.sc gg x).p (hid H2 (J.oo x))/\PZ Er (Fd D) (hid H2 (J.oo x)) ((forN (as.drop i) gg body).bind f),⟨as.length,rfl,Nat.zero_le _,x0,g0,h2,?_,?_,?_,?_⟩,?_⟩
  ·rw[←h1];exact w.keep s'
  ·rw[←h1];exact Xp.refl _
  ·rw[←h1];exact h3 _ (S.mono _ _ (Xj s') s)
  ·rw[←h1,List.drop_zero];exact PZ.tr (fd.tr D) (Xj s') P
  ·rintro i mm σ' H2 ⟨rfl,hi,x,gg,rfl,w2,m2,sc2,P2⟩
   by_cases hlt:i<as.length
   ·right
    have ha:as[i]?=some as[i]:=by simp[hlt]
    obtain⟨h4,h5⟩:=hgo i _ ha (J.oo x) H2 w2 m2
    refine⟨h4,λσ3 H3=>∃ x gg,σ3=J.ss x/\W (J.oo x) H3/\Xp (hid H' OO) (hid H3 (J.oo x))/\(J.sc gg x).p (hid H3 (J.oo x))/\PZ Er (Fd D) (hid H3 (J.oo x)) ((forN (as.drop (i+1)) gg body).bind f),λσ3 H3 q=>⟨as.length-(i+1),Nat.sub_lt_sub_left hlt (Nat.lt_succ_self i),rfl,hlt,q⟩,λy H3 hy=>?_⟩
    obtain⟨s3,r3⟩:=h5 y H3 hy
    have w3:=w2.keep s3
    have m3:=Xj (OO:=J.oo x) s3
    refine(T (J.oo x)).ok r3 ((J.sc gg x).mono _ _ m3 sc2) λv hv=>hb gg x as[i] v H3 _ w3 hv ?_
    rw[List.drop_eq_getElem_cons hlt] at P2
    have P3:PZ Er (Fd D) (hid H2 (J.oo x)) ((body gg as[i]).bind λg'=>(forN (as.drop (i+1)) g' body).bind f):=by rw[←Ya];exact P2
    cases eb:body gg as[i] with
    |bad=>rw[eb] at P3;exact P3
    |err x=>rw[eb] at P3;exact λH4 s4=>P3 H4 (m3.trans s4)
    |ok g'=>
     rw[eb] at P3
     exact λx' H4 w4 m4 sc4=>⟨x',g',rfl,w4,m2.trans (m3.trans m4),sc4,PZ.tr (fd.tr D) (m3.trans m4) P3⟩
   ·left
    have e:i=as.length:=Nat.le_antisymm hi (Nat.not_lt.mp hlt)
    subst e
    refine⟨hstop (J.oo x) H2 w2 m2,hr gg x H2 D w2 sc2 ?_⟩
    rw[List.drop_length] at P2
    exact P2
theorem Fh {o:OE ρ}{wi:TI}{g:TG}{tb:TS}{r:Enc α}{κ:Type}{m:Rs (List α)}{body:γ->α->Rs (Ctl ρ γ)}{f:γ->Rs ρ}(J:Jn γ ι)(T:∀OO,Tgt K OO g r κ)(x0:ι)(g0:γ)(he:Walk K Er S OO σ wi r m)(h1:OO=J.oo x0)(h2:σ=J.ss x0)(h3:∀h,S.p h->(J.sc g0 x0).p h)
  (hb:∀g x a v,Sv Er ((T (J.oo x)).sc a v (J.sc g x)) (J.oo x) ((T (J.oo x)).set v (J.ss x)) tb (FCd K o J) (body g a))
  (hr:∀g x,Sv Er (J.sc g x) (J.oo x) (J.ss x) u (FTd K o) (f g)):Sv Er S OO σ (ZQ (Ht wi g tb) u) (FTd K o) (m.bind λas=>(forC as g0 body).bind (VB f)):=λH D w s P=>by
 refine he.ok w s ?_
 cases em:m with
 |bad=>rw[em] at P;exact P
 |err x=>rw[em] at P;exact λH' s'=>P H' (XD.trans s')
 |ok as=>
  rw[em] at P
  have P:PZ Er (FTd K o D) (hid H OO) ((forC as g0 body).bind (VB f)):=P
  intro It H' s' hgo hstop
  refine⟨λi mm σ' H2=>mm=as.length-i/\i<=as.length/\∃x gg,σ'=J.ss x/\W (J.oo x) H2/\Xp (hid H' OO) (hid H2 (J.oo x))/\(J.sc gg x).p (hid H2 (J.oo x))/\PZ Er (FTd K o D) (hid H2 (J.oo x)) ((forC (as.drop i) gg body).bind (VB f)),⟨as.length,rfl,Nat.zero_le _,x0,g0,h2,?_,?_,?_,?_⟩,?_⟩
  ·rw[←h1];exact w.keep s'
  ·rw[←h1];exact Xp.refl _
  ·rw[←h1];exact h3 _ (S.mono _ _ (Xj s') s)
  ·rw[←h1,List.drop_zero];exact PZ.tr (FdOk.tr D) (Xj s') P
  ·rintro i mm σ' H2 ⟨rfl,hi,x,gg,rfl,w2,m2,sc2,P2⟩
   by_cases hlt:i<as.length
   ·right
    have ha:as[i]?=some as[i]:=by simp[hlt]
    obtain⟨h4,h5⟩:=hgo i _ ha (J.oo x) H2 w2 m2
    refine⟨h4,λσ3 H3=>∃ x gg,σ3=J.ss x/\W (J.oo x) H3/\Xp (hid H' OO) (hid H3 (J.oo x))/\(J.sc gg x).p (hid H3 (J.oo x))/\PZ Er (FTd K o D) (hid H3 (J.oo x)) ((forC (as.drop (i+1)) gg body).bind (VB f)),λσ3 H3 q=>⟨as.length-(i+1),Nat.sub_lt_sub_left hlt (Nat.lt_succ_self i),rfl,hlt,q⟩,λy H3 hy=>?_⟩
    obtain⟨s3,r3⟩:=h5 y H3 hy
    have w3:=w2.keep s3
    have m3:=Xj (OO:=J.oo x) s3
    refine(T (J.oo x)).ok r3 ((J.sc gg x).mono _ _ m3 sc2) λv hv=>hb gg x as[i] v H3 _ w3 hv ?_
    rw[List.drop_eq_getElem_cons hlt] at P2
    have P3:PZ Er (FTd K o D) (hid H2 (J.oo x)) ((body gg as[i]).bind λc=>(match c with
     | .ret r=>Rs.ok (Ctl.ret r)
     | .nx g'=>forC (as.drop (i+1)) g' body).bind (VB f)):=by rw[←Ya];exact P2
    cases eb:body gg as[i] with
    |bad=>rw[eb] at P3;exact P3
    |err x=>rw[eb] at P3;exact λH4 s4=>P3 H4 (m3.trans s4)
    |ok c=>
     rw[eb] at P3
     cases c with
     |ret r=>exact FdOk.tr (Fd:=FTd K o) D r _ _ m3 P3
     |nx g'=>exact λx' H4 w4 m4 sc4=>⟨x',g',rfl,w4,m2.trans (m3.trans m4),sc4,PZ.tr (FdOk.tr D) (m3.trans m4) P3⟩
   ·left
    have e:i=as.length:=Nat.le_antisymm hi (Nat.not_lt.mp hlt)
    subst e
    refine⟨hstop (J.oo x) H2 w2 m2,hr gg x H2 D w2 sc2 ?_⟩
    rw[List.drop_length] at P2
    exact P2
theorem Cp {κ2:Type}{o:OE ρ}{J2:Jn δ κ2}{wi:TI}{g:TG}{tb:TS}{r:Enc α}{κ:Type}{m:Rs (List α)}{body:γ->α->Rs (Ctl ρ γ)}{f:γ->Rs (Ctl ρ δ)}(J:Jn γ ι)(T:∀OO,Tgt K OO g r κ)(x0:ι)(g0:γ)(he:Walk K Er S OO σ wi r m)(h1:OO=J.oo x0)(h2:σ=J.ss x0)(h3:∀h,S.p h->(J.sc g0 x0).p h)
  (hb:∀g x a v,Sv Er ((T (J.oo x)).sc a v (J.sc g x)) (J.oo x) ((T (J.oo x)).set v (J.ss x)) tb (FCd K o J) (body g a))
  (hr:∀g x,Sv Er (J.sc g x) (J.oo x) (J.ss x) u (FCd K o J2) (f g)):Sv Er S OO σ (ZQ (Ht wi g tb) u) (FCd K o J2) (m.bind λas=>(forC as g0 body).bind (QK f)):=λH D w s P=>by
 refine he.ok w s ?_
 cases em:m with
 |bad=>rw[em] at P;exact P
 |err x=>rw[em] at P;exact λH' s'=>P H' (XD.trans s')
 |ok as=>
  rw[em] at P
  have P:PZ Er (FCd K o J2 D) (hid H OO) ((forC as g0 body).bind (QK f)):=P
  intro It H' s' hgo hstop
  refine⟨λi mm σ' H2=>mm=as.length-i/\i<=as.length/\∃x gg,σ'=J.ss x/\W (J.oo x) H2/\Xp (hid H' OO) (hid H2 (J.oo x))/\(J.sc gg x).p (hid H2 (J.oo x))/\PZ Er (FCd K o J2 D) (hid H2 (J.oo x)) ((forC (as.drop i) gg body).bind (QK f)),⟨as.length,rfl,Nat.zero_le _,x0,g0,h2,?_,?_,?_,?_⟩,?_⟩
  ·rw[←h1];exact w.keep s'
  ·rw[←h1];exact Xp.refl _
  ·rw[←h1];exact h3 _ (S.mono _ _ (Xj s') s)
  ·rw[←h1,List.drop_zero];exact PZ.tr (FdOk.tr D) (Xj s') P
  ·rintro i mm σ' H2 ⟨rfl,hi,x,gg,rfl,w2,m2,sc2,P2⟩
   by_cases hlt:i<as.length
   ·right
    have ha:as[i]?=some as[i]:=by simp[hlt]
    obtain⟨h4,h5⟩:=hgo i _ ha (J.oo x) H2 w2 m2
    refine⟨h4,λσ3 H3=>∃ x gg,σ3=J.ss x/\W (J.oo x) H3/\Xp (hid H' OO) (hid H3 (J.oo x))/\(J.sc gg x).p (hid H3 (J.oo x))/\PZ Er (FCd K o J2 D) (hid H3 (J.oo x)) ((forC (as.drop (i+1)) gg body).bind (QK f)),λσ3 H3 q=>⟨as.length-(i+1),Nat.sub_lt_sub_left hlt (Nat.lt_succ_self i),rfl,hlt,q⟩,λy H3 hy=>?_⟩
    obtain⟨s3,r3⟩:=h5 y H3 hy
    have w3:=w2.keep s3
    have m3:=Xj (OO:=J.oo x) s3
    refine(T (J.oo x)).ok r3 ((J.sc gg x).mono _ _ m3 sc2) λv hv=>hb gg x as[i] v H3 _ w3 hv ?_
    rw[List.drop_eq_getElem_cons hlt] at P2
    have P3:PZ Er (FCd K o J2 D) (hid H2 (J.oo x)) ((body gg as[i]).bind λc=>(match c with
     | .ret r=>Rs.ok (Ctl.ret r)
     | .nx g'=>forC (as.drop (i+1)) g' body).bind (QK f)):=by rw[←Ya];exact P2
    cases eb:body gg as[i] with
    |bad=>rw[eb] at P3;exact P3
    |err x=>rw[eb] at P3;exact λH4 s4=>P3 H4 (m3.trans s4)
    |ok c=>
     rw[eb] at P3
     cases c with
     |ret r=>exact FdOk.tr (Fd:=FTd K o) D r _ _ m3 P3
     |nx g'=>exact λx' H4 w4 m4 sc4=>⟨x',g',rfl,w4,m2.trans (m3.trans m4),sc4,PZ.tr (FdOk.tr D) (m3.trans m4) P3⟩
   ·left
    have e:i=as.length:=Nat.le_antisymm hi (Nat.not_lt.mp hlt)
    subst e
    refine⟨hstop (J.oo x) H2 w2 m2,hr gg x H2 D w2 sc2 ?_⟩
    rw[List.drop_length] at P2
    exact P2
noncomputable def QM:Nat->γ->(γ->Rs Bool)->(γ->Rs γ)->Rs γ
 |0,_,_,_=>.bad
 |n+1,g,c,f=>(c g).bind λb=>if b=true then(f g).bind λg'=>QM n g' c f else .ok g
theorem K7 {c:TT}{tb:TS}{mc:γ->Rs Bool}{body:γ->Rs γ}{f:γ->Rs β}(J:Jn γ ι)(n:Nat)(x0:ι)(g0:γ)(h1:OO=J.oo x0)(h2:σ=J.ss x0)(h3:∀h,S.p h->(J.sc g0 x0).p h)
  (hc:∀g x,EvT Er (J.sc g x) (J.oo x) (J.ss x) c (mc g))(hb:∀g x,Sv Er (J.sc g x) (J.oo x) (J.ss x) tb (FNd J) (body g))
  (hr:∀g x,Sv Er (J.sc g x) (J.oo x) (J.ss x) u Fd (f g)):Sv Er S OO σ (ZQ (Bf c tb) u) Fd ((QM n g0 mc body).bind f):=λH D w s P=>by
 refine⟨λmm σ' H2=>∃ x gg,σ'=J.ss x/\W (J.oo x) H2/\(J.sc gg x).p (hid H2 (J.oo x))/\PZ Er (Fd D) (hid H2 (J.oo x)) ((QM mm gg mc body).bind f),⟨n,x0,g0,h2,by rw[←h1];exact w,by rw[←h1];exact h3 _ s,by rw[←h1];exact P⟩,?_⟩
 rintro mm σ' H2 ⟨x,gg,rfl,w2,sc2,P2⟩
 cases mm with
 |zero=>exact P2.elim
 |succ mm=>
  have P3:PZ Er (Fd D) (hid H2 (J.oo x)) ((mc gg).bind λb=>(if b=true then(body gg).bind λg'=>QM mm g' mc body else .ok gg).bind f):=by rw[←Ya];exact P2
  refine(hc gg x).st w2 sc2 P3 λb H3 w3 sc3 P4=>?_
  cases b with
  |false=>exact hr gg x H3 D w3 sc3 P4
  |true=>
   rw[if_pos rfl] at P4⊢
   refine⟨λσ3 H4=>∃ x gg,σ3=J.ss x/\W (J.oo x) H4/\(J.sc gg x).p (hid H4 (J.oo x))/\PZ Er (Fd D) (hid H4 (J.oo x)) ((QM mm gg mc body).bind f),λσ3 H4 q=>⟨mm,Nat.lt_succ_self _,q⟩,hb gg x H3 _ w3 sc3 ?_⟩
   rw[Ya] at P4
   cases eb:body gg with
   |bad=>rw[eb] at P4;exact P4
   |err x=>rw[eb] at P4;exact P4
   |ok g'=>
    rw[eb] at P4
    exact λx' H5 w5 m5 sc5=>⟨x',g',rfl,w5,sc5,PZ.tr (fd.tr D) m5 P4⟩
noncomputable def UH (as:List α)(f:α->Rs β):Rs (List β):=match as with
 | []=>.ok []
 |a::as=>(f a).bind λb=>(UH as f).bind λbs=>.ok (b::bs)
noncomputable def JK (as:List α)(f:α->Rs β):Rs (List β):=chk (as.length<=sizeLine) (UH as f)
noncomputable def K0 (as:List α)(c:α->Rs Bool)(f:α->Rs β):Rs (List β):=match as with
 | []=>.ok []
 |a::as=>(c a).bind λb=>if b=true then(f a).bind λb=>(K0 as c f).bind λbs=>.ok (b::bs) else K0 as c f
noncomputable def HR (as:List α)(c:α->Rs Bool)(f:α->Rs β):Rs (List β):=chk (as.length<=sizeLine) (K0 as c f)
theorem PZ.chk {F:β->Hp->Prop}{H:Hp}{c:Prop}[Decidable c]{m:Rs β}(P:PZ Er F H (chk c m)):c/\PZ Er F H m:=by
 unfold L2.chk at P;split at P
 ·exact⟨by assumption,P⟩
 ·exact P.elim
theorem BJ {o:OE α}[z:MonoO o]{xs:List V}{as:List α}{Cs:List (List Xr)}{H H0:Hp}{Q:VK}(w:W (Cs.flatten::OO) H)(m0:Xp (hid H0 OO) (hid H (Cs.flatten::OO)))(s0:Xp H0 H)(pr:P3 (o K (hid H (Cs.flatten::OO))) xs as Cs)(P:FO K OO OO (oL o) Q as H0):∀p,H p=none->Q (.ref p) (upd H p (.lst xs)):=λp hp=>by
 have hn:=Kh (OO:=Cs.flatten::OO) hp (o:=.lst xs)
 have wn:=w.new hp (o:=.lst xs) rfl
 have pe:(((p,HO.lst xs)::Cs.flatten)::OO).flatten.Perm ([(p,HO.lst xs)]::Cs.flatten::OO).flatten:=by simp
 refine P (.ref p) ((p, .lst xs)::Cs.flatten) _ (s0.trans (Zq hp _)) (wn.of pe) ?_ ?_
 ·rw[Yn pe];exact m0.trans hn
 ·rw[Yn pe]
  exact⟨p,xs,Cs,rfl,pr.imp λ_ _ _ h=>z.mono hn h,rfl⟩
theorem YT {o:OE β}[z:MonoO o]{wi:TI}{g:TG}{te:TE}{r:Enc α}{κ:Type}{m:Rs (List α)}{f:α->Rs β}{n:Nat}{caps:List (Nat×Str)}(T:∀OO,Tgt K OO g r κ)(he:Walk K Er S OO σ wi r m)
  (hb:∀C a v,Ev K Er ((T (C::OO)).sc a v S) (C::OO) (C::OO) ((T (C::OO)).set v (Qd n caps σ)) te o (f a)):Ev K Er S OO OO σ (Gv n caps wi g VJ te) (oL o) (m.bind λas=>JK as f):=λH Q w s P=>by
 refine he.ok w s ?_
 cases em:m with
 |bad=>rw[em] at P;exact P
 |err x=>rw[em] at P;exact P
 |ok as=>
  rw[em] at P
  obtain⟨hsz,P⟩:=PZ.chk (show PZ Er _ H (chk (as.length<=sizeLine) (UH as f)) from P)
  intro It H' s' hgo hstop
  -- what is left: the Y3 of the items, then all
  refine⟨λi mm ys H2=>mm=as.length-i/\i<=as.length/\∃bs Cs,Xp H H2/\W (Cs.flatten::OO) H2/\Xp (hid H' OO) (hid H2 (Cs.flatten::OO))/\P3 (o K (hid H2 (Cs.flatten::OO))) ys bs Cs/\bs.length=i/\PZ Er (FO K OO OO (oL o) Q) H ((UH (as.drop i) f).bind λY3=>.ok (bs++Y3)),
   ⟨as.length,rfl,Nat.zero_le _,[],[],s',(w.keep s').nil,by show Xp _ (hid H' ([]::OO));rw[Zh];exact Xp.refl _, .nil,rfl,?_⟩,?_⟩
  ·rw[List.drop_zero]
   revert P
   cases UH as f<;> exact λz=>z
  ·rintro i mm ys H2 ⟨rfl,hi,bs,Cs,s2,w2,m2,pr,hlen,P2⟩
   refine⟨by rw[pr.len.1,hlen];omega,?_⟩
   by_cases hlt:i<as.length
   ·right
    have ha:as[i]?=some as[i]:=by simp[hlt]
    obtain⟨h4,h5⟩:=hgo i _ ha (Cs.flatten::OO) H2 w2 m2
    refine⟨h4,λys' H3=>∃ bs Cs,Xp H H3/\W (Cs.flatten::OO) H3/\Xp (hid H' OO) (hid H3 (Cs.flatten::OO))/\P3 (o K (hid H3 (Cs.flatten::OO))) ys' bs Cs/\bs.length=i+1/\PZ Er (FO K OO OO (oL o) Q) H ((UH (as.drop (i+1)) f).bind λY3=>.ok (bs++Y3)),λys' H3 q=>⟨as.length-(i+1),Nat.sub_lt_sub_left hlt (Nat.lt_succ_self i),rfl,hlt,q⟩,λy H3 hy=>?_⟩
    obtain⟨s3,r3⟩:=h5 y H3 hy
    have w3:=w2.keep s3
    have m3:=Xj (OO:=Cs.flatten::OO) s3
    have sS:S.p (hid H3 (Cs.flatten::OO)):=S.mono _ _ ((Xj s').trans (m2.trans m3)) s
    refine(T (Cs.flatten::OO)).ok r3 sS λv hv=>?_
    show VJ _ _ _
    refine Hr ?_
    rw[List.drop_eq_getElem_cons hlt] at P2
    have P3':PZ Er (FO K OO OO (oL o) Q) H ((f as[i]).bind λb=>(UH (as.drop (i+1)) f).bind λY3=>.ok (bs++b::Y3)):=by
     have:((f as[i]).bind λb=>(UH (as.drop (i+1)) f).bind λY3=>Rs.ok (bs++b::Y3))=(UH (as[i]::as.drop (i+1)) f).bind λY3=>.ok (bs++Y3):=by
      show _=((f as[i]).bind λb=>(UH (as.drop (i+1)) f).bind λbs=>Rs.ok (b::bs)).bind _
      rw[Ya];congr 1;funext b;rw[Ya];rfl
     rw[this];exact P2
    refine hb Cs.flatten as[i] v H3 _ w3 hv ?_
    cases eb:f as[i] with
    |bad=>rw[eb] at P3';exact P3'
    |err x=>rw[eb] at P3';exact λH4 s4=>P3' H4 (s2.trans (s3.trans s4))
    |ok b=>
     rw[eb] at P3'
     intro v' C' H4 s4 w4 m4 ho
     have pe:((Cs++[C']).flatten::OO).flatten.Perm (C'::Cs.flatten::OO).flatten:=by
      simp only[Ys,List.flatten_cons]
      rw[List.append_assoc, ←List.append_assoc, ←List.append_assoc]
      exact List.perm_append_comm.append_right _
     refine⟨bs++[b],Cs++[C'],s2.trans (s3.trans s4),w4.of pe,?_,?_,by simp[hlen],?_⟩
     ·rw[Yn pe];exact m2.trans (m3.trans m4)
     ·rw[Yn pe];exact P3.snoc (pr.imp λ_ _ _ h=>z.mono (m3.trans m4) h) ho
     ·have P4:PZ Er (FO K OO OO (oL o) Q) H ((UH (as.drop (i+1)) f).bind λY3=> .ok (bs++b::Y3)):=P3'
      simpa using P4
   ·left
    have e:i=as.length:=Nat.le_antisymm hi (Nat.not_lt.mp hlt)
    subst e
    refine⟨hstop (Cs.flatten::OO) H2 w2 m2,?_⟩
    rw[List.drop_length] at P2
    have P3':FO K OO OO (oL o) Q (bs++[]) H:=P2
    rw[List.append_nil] at P3'
    exact BJ (H0:=H) w2 ((Xj s').trans m2) s2 pr P3'
theorem DV {o:OE β}[z:MonoO o]{wi:TI}{g:TG}{tt:TT}{te:TE}{r:Enc α}{κ:Type}{m:Rs (List α)}{c:α->Rs Bool}{f:α->Rs β}{n:Nat}{caps:List (Nat×Str)}(T:∀OO,Tgt K OO g r κ)(he:Walk K Er S OO σ wi r m)
  (hc:∀C a v,EvT Er ((T (C::OO)).sc a v S) (C::OO) ((T (C::OO)).set v (Qd n caps σ)) tt (c a))
  (hb:∀C a v,Ev K Er ((T (C::OO)).sc a v S) (C::OO) (C::OO) ((T (C::OO)).set v (Qd n caps σ)) te o (f a)):Ev K Er S OO OO σ (Gv n caps wi g tt te) (oL o) (m.bind λas=>HR as c f):=λH Q w s P=>by
 refine he.ok w s ?_
 cases em:m with
 |bad=>rw[em] at P;exact P
 |err x=>rw[em] at P;exact P
 |ok as=>
  rw[em] at P
  obtain⟨hsz,P⟩:=PZ.chk (show PZ Er _ H (chk (as.length<=sizeLine) (K0 as c f)) from P)
  intro It H' s' hgo hstop
  refine⟨λi mm ys H2=>mm=as.length-i/\i<=as.length/\∃bs Cs,Xp H H2/\W (Cs.flatten::OO) H2/\Xp (hid H' OO) (hid H2 (Cs.flatten::OO))/\P3 (o K (hid H2 (Cs.flatten::OO))) ys bs Cs/\bs.length<=i/\PZ Er (FO K OO OO (oL o) Q) H ((K0 (as.drop i) c f).bind λY3=>.ok (bs++Y3)),
   ⟨as.length,rfl,Nat.zero_le _,[],[],s',(w.keep s').nil,by show Xp _ (hid H' ([]::OO));rw[Zh];exact Xp.refl _, .nil,Nat.zero_le _,?_⟩,?_⟩
  ·rw[List.drop_zero]
   revert P
   cases K0 as c f<;> exact λz=>z
  ·rintro i mm ys H2 ⟨rfl,hi,bs,Cs,s2,w2,m2,pr,hlen,P2⟩
   refine⟨by rw[pr.len.1];omega,?_⟩
   by_cases hlt:i<as.length
   ·right
    have ha:as[i]?=some as[i]:=by simp[hlt]
    obtain⟨h4,h5⟩:=hgo i _ ha (Cs.flatten::OO) H2 w2 m2
    refine⟨h4,λys' H3=>∃ bs Cs,Xp H H3/\W (Cs.flatten::OO) H3/\Xp (hid H' OO) (hid H3 (Cs.flatten::OO))/\P3 (o K (hid H3 (Cs.flatten::OO))) ys' bs Cs/\bs.length<=i+1/\PZ Er (FO K OO OO (oL o) Q) H ((K0 (as.drop (i+1)) c f).bind λY3=>.ok (bs++Y3)),λys' H3 q=>⟨as.length-(i+1),Nat.sub_lt_sub_left hlt (Nat.lt_succ_self i),rfl,hlt,q⟩,λy H3 hy=>?_⟩
    obtain⟨s3,r3⟩:=h5 y H3 hy
    have w3:=w2.keep s3
    have m3:=Xj (OO:=Cs.flatten::OO) s3
    have sS:S.p (hid H3 (Cs.flatten::OO)):=S.mono _ _ ((Xj s').trans (m2.trans m3)) s
    refine(T (Cs.flatten::OO)).ok r3 sS λv hv=>?_
    rw[List.drop_eq_getElem_cons hlt] at P2
    have P3':PZ Er (FO K OO OO (oL o) Q) H ((c as[i]).bind λb=>(if b=true then(f as[i]).bind λb=>(K0 (as.drop (i+1)) c f).bind λbs=>.ok (b::bs) else K0 (as.drop (i+1)) c f).bind λY3=>.ok (bs++Y3)):=by
     rw[←Ya];exact P2
    refine hc Cs.flatten as[i] v H3 _ w3 hv ?_
    cases ec:c as[i] with
    |bad=>rw[ec] at P3';exact P3'
    |err x=>rw[ec] at P3';exact λH4 s4=>P3' H4 (s2.trans (s3.trans s4))
    |ok b=>
     rw[ec] at P3'
     intro H4 s4
     have w4:=w3.keep s4
     have m4:=Xj (OO:=Cs.flatten::OO) s4
     cases b with
     |false=>exact⟨bs,Cs,s2.trans (s3.trans s4),w4,m2.trans (m3.trans m4),pr.imp λ_ _ _ h=>z.mono (m3.trans m4) h,Nat.le_succ_of_le hlen,P3'⟩
     |true=>
      rw[if_pos rfl]
      have P4:PZ Er (FO K OO OO (oL o) Q) H ((f as[i]).bind λb=>(K0 (as.drop (i+1)) c f).bind λY3=>.ok (bs++b::Y3)):=by
       have:((f as[i]).bind λb=>(K0 (as.drop (i+1)) c f).bind λY3=>Rs.ok (bs++b::Y3))=((f as[i]).bind λb=>(K0 (as.drop (i+1)) c f).bind λbs=>Rs.ok (b::bs)).bind λY3=>.ok (bs++Y3):=by
        rw[Ya];congr 1;funext b;rw[Ya];rfl
       rw[this];exact P3'
      refine hb Cs.flatten as[i] v H4 _ w4 (((T (Cs.flatten::OO)).sc as[i] v S).mono _ _ m4 hv) ?_
      cases eb:f as[i] with
      |bad=>rw[eb] at P4;exact P4
      |err x=>rw[eb] at P4;exact λH5 s5=>P4 H5 (s2.trans (s3.trans (s4.trans s5)))
      |ok b=>
       rw[eb] at P4
       intro v' C' H5 s5 w5 m5 ho
       have pe:((Cs++[C']).flatten::OO).flatten.Perm (C'::Cs.flatten::OO).flatten:=by
        simp only[Ys,List.flatten_cons]
        rw[List.append_assoc, ←List.append_assoc, ←List.append_assoc]
        exact List.perm_append_comm.append_right _
       refine⟨bs++[b],Cs++[C'],s2.trans (s3.trans (s4.trans s5)),w5.of pe,?_,?_,by simpa using hlen,?_⟩
       ·rw[Yn pe];exact m2.trans (m3.trans (m4.trans m5))
       ·rw[Yn pe];exact P3.snoc (pr.imp λ_ _ _ h=>z.mono (m3.trans (m4.trans m5)) h) ho
       ·have P5:PZ Er (FO K OO OO (oL o) Q) H ((K0 (as.drop (i+1)) c f).bind λY3=> .ok (bs++b::Y3)):=P4
        simpa using P5
   ·left
    have e:i=as.length:=Nat.le_antisymm hi (Nat.not_lt.mp hlt)
    subst e
    refine⟨hstop (Cs.flatten::OO) H2 w2 m2,?_⟩
    rw[List.drop_length] at P2
    have P3':FO K OO OO (oL o) Q (bs++[]) H:=P2
    rw[List.append_nil] at P3'
    exact BJ (H0:=H) w2 ((Xj s').trans m2) s2 pr P3'
noncomputable def Qa (as:List α)(i:Int)(a:α):Rs (List α):=match ixN as.length i with
 |some j=>.ok (as.set j a)
 |none=>.bad
end
section
variable {K:PySem.W.Frag}{Er:Exc->Hp->Prop}{S:SC}{OO OO' OO2:List (List Xr)}{σ:St}{α β γ ρ ι δ ε:Type}
variable {Fd:Ends->β->Hp->Prop}[fd:FdOk Fd]{u:TS}
theorem Hn {C D C':List Xr}{H:Hp}{k:Nat}{p:Addr}{o:HO}(w:W (D::OO) H)(hk:OO[k]?=some C)(hp:p∈C.map (·.1))(hp':p∈C'.map (·.1))(hnd:(C'.map (·.1)).Nodup)(hin:∀b∈C'.map (·.1),b∈(C++D).map (·.1))(ht:∀c∈C',upd H p o c.1=some c.2)(hm:∀c∈C',EI c.2=true):
  W (OO.set k C') (upd H p o)/\Xp (hid H (D::OO)) (hid (upd H p o) (OO.set k C')):=by
 have hlt:k<OO.length:=by
  rcases Nat.lt_or_ge k OO.length with h |h
  ·exact h
  ·rw[List.getElem?_eq_none h] at hk;cases hk
 have h1:=XR hk
 have h2:=XR (OO:=OO.set k C') (k:=k) (C:=C') (by simp[hlt])
 rw[set_set] at h2
 have h3:(OO.set k C').flatten.Perm (C'++(OO.set k []).flatten):=by simpa using h2.symm
 have h4:(D::OO).flatten.Perm ((C++D)++(OO.set k []).flatten):=by
  rw[List.flatten_cons]
  refine((by simpa using h1.symm:OO.flatten.Perm (C++(OO.set k []).flatten)).append_left D).trans ?_
  rw[←List.append_assoc]
  exact List.perm_append_comm.append_right _
 have nd2:(((C++D)++(OO.set k []).flatten).map (·.1)).Nodup:=(h4.map _).nodup_iff.mp w.nd
 rw[List.map_append] at nd2
 obtain⟨n1,n2,n3⟩:=List.nodup_append.mp nd2
 refine⟨⟨λc hc=>?_,?_,λc hc=>?_⟩,λb v q=>?_⟩
 ·rcases List.mem_append.mp (h3.mem_iff.mp hc) with hc |hc
  ·exact ht c hc
  ·have hne:c.1≠p:=λe=>n3 p (hin p hp') c.1 (List.mem_map.mpr ⟨c,hc,rfl⟩) e.symm
   rw[Xw hne]
   exact w.tr c (h4.mem_iff.mpr (by simp[hc]))
 ·refine((h3.map _).nodup_iff).mpr ?_
  rw[List.map_append]
  exact List.nodup_append.mpr ⟨hnd,n2,λa ha b hb=>n3 a (hin a ha) b hb⟩
 ·rcases List.mem_append.mp (h3.mem_iff.mp hc) with hc |hc
  ·exact hm c hc
  ·exact w.mu c (h4.mem_iff.mpr (by simp[hc]))
 ·obtain⟨q1,q2⟩:=XW q
  have hbp:b≠p:=λe=>q2 (by
   rw[e]
   obtain⟨c,hc,rfl⟩:=List.mem_map.mp hp
   exact JU (h4.mem_iff.mpr (by simp[hc])))
  refine Zm (by rw[Xw hbp];exact q1) λz=>q2 ?_
  obtain⟨o',ho'⟩:=GM z
  rcases List.mem_append.mp (h3.mem_iff.mp ho') with hc |hc
  ·obtain⟨c,hc2,e⟩:=List.mem_map.mp (hin b (List.mem_map.mpr ⟨_,hc,rfl⟩))
   rw[←e]
   exact JU (h4.mem_iff.mpr (List.mem_append_left _ hc2))
  ·exact JU (c:=(b,o')) (h4.mem_iff.mpr (by simp[hc]))
theorem IE {D:List Xr}{Cs Cs':List (List Xr)}{H:Hp}{k:Nat}{p:Addr}{xs xs':List V}(w:W (D::OO) H)(hk:OO[k]?=some ((p, .lst xs)::Cs.flatten))(hin:∀c∈Cs'.flatten,c∈Cs.flatten++D)(hnd:(Cs'.flatten.map (·.1)).Nodup):
  W (OO.set k ((p, .lst xs')::Cs'.flatten)) (upd H p (.lst xs'))/\Xp (hid H (D::OO)) (hid (upd H p (.lst xs')) (OO.set k ((p, .lst xs')::Cs'.flatten))):=by
 have h1:=XR hk
 have w3:W [((p,HO.lst xs)::(Cs.flatten++D))++(OO.set k []).flatten] H:=w.of (by
  simp only[List.flatten_cons,List.flatten_nil,List.append_nil]
  refine List.Perm.trans ?_ ((by simpa using h1:(((p,HO.lst xs)::Cs.flatten)++(OO.set k []).flatten).Perm OO.flatten).append_left D)
  rw[←List.append_assoc]
  refine List.Perm.append_right _ ?_
  exact(List.perm_append_comm (l₁:=(p,HO.lst xs)::Cs.flatten) (l₂:=D)))
 have nd:=w3.nd
 simp only[fl,List.flatten_cons,List.flatten_nil,List.append_nil,List.map_append,List.cons_append,List.map_cons] at nd
 have hne:∀c∈Cs'.flatten,c.1≠p:=λc hc e=>by
  refine(List.nodup_cons.mp nd).1 ?_
  rw[←e]
  refine List.mem_append_left _ ?_
  rw[←List.map_append]
  exact List.mem_map.mpr ⟨c,hin c hc,rfl⟩
 refine Hn w hk List.mem_cons_self List.mem_cons_self ?_ ?_ ?_ ?_
 ·rw[List.map_cons,List.nodup_cons]
  refine⟨λz=>?_,hnd⟩
  obtain⟨c,hc,e⟩:=List.mem_map.mp z
  exact hne c hc e
 ·intro b hb
  rcases List.mem_cons.mp hb with rfl |hb
  ·exact List.mem_cons_self
  ·obtain⟨c,hc,rfl⟩:=List.mem_map.mp hb
   rw[List.cons_append,List.map_cons]
   exact List.mem_cons_of_mem _ (List.mem_map.mpr ⟨c,hin c hc,rfl⟩)
 ·intro c hc
  rcases List.mem_cons.mp hc with rfl |hc
  ·exact Yf
  ·rw[Xw (hne c hc)]
   exact w3.tr c (by
    rw[List.flatten_cons,List.flatten_nil,List.append_nil]
    exact List.mem_append_left _ (List.mem_cons_of_mem _ (hin c hc)))
 ·intro c hc
  rcases List.mem_cons.mp hc with rfl |hc
  ·rfl
  ·exact w3.mu c (by
    rw[List.flatten_cons,List.flatten_nil,List.append_nil]
    exact List.mem_append_left _ (List.mem_cons_of_mem _ (hin c hc)))
theorem Dl {o:OE α}{h:Hp}{p:Addr}{xs:List V}{as:List α}{R:List Xr}(q:oL o K h (.ref p) as ((p, .lst xs)::R)):∃Cs,P3 (o K h) xs as Cs/\R=Cs.flatten:=by
 obtain⟨p',xs',Cs,e,q,c⟩:=q
 injection c with c1 c2
 injection c1 with c3 c4
 injection c4 with c5
 subst c5
 exact⟨Cs,q,c2⟩
theorem Fp {as:List α}{i:Int}{a:α}{bs:List α}(h:Qa as i a= .ok bs):∃j,ixN as.length i=some j/\bs=as.set j a:=by
 unfold Qa at h;split at h
 ·cases h;exact⟨_,by assumption,rfl⟩
 ·cases h
theorem F8 {as:List α}{i:Int}{a:α}{x:Exc}:Qa as i a≠ .err x:=by unfold Qa;split<;> exact λz=>nomatch z
theorem Cb {Cs:List (List Xr)}{j:Nat}{D:List Xr}(hj:j<Cs.length):((Cs.set j D).flatten++Cs[j]).Perm (Cs.flatten++D):=by
 have h1:=XR (OO:=Cs) (k:=j) (C:=Cs[j]) (by simp[hj])
 have h2:=XR (OO:=Cs.set j D) (k:=j) (C:=D) (by simp[hj])
 rw[set_set] at h2
 have h3:(Cs.set j D).flatten.Perm (D++(Cs.set j []).flatten):=by simpa using h2.symm
 have h4:Cs.flatten.Perm (Cs[j]++(Cs.set j []).flatten):=by simpa using h1.symm
 refine(h3.append_right _).trans (List.Perm.trans ?_ (h4.append_right _).symm)
 refine List.perm_append_comm.trans ((List.perm_append_comm.append_left _).trans ?_)
 rw[List.append_assoc]
theorem UU {D:List Xr}{Cs:List (List Xr)}{H:Hp}{k:Nat}{p:Addr}{xs:List V}(w:W (D::OO) H)(hk:OO[k]?=some ((p, .lst xs)::Cs.flatten)):((Cs.flatten++D).map (·.1)).Nodup:=by
 have h1:=XR hk
 have w3:W [((p,HO.lst xs)::(Cs.flatten++D))++(OO.set k []).flatten] H:=w.of (by
  simp only[List.flatten_cons,List.flatten_nil,List.append_nil]
  refine List.Perm.trans ?_ ((by simpa using h1:(((p,HO.lst xs)::Cs.flatten)++(OO.set k []).flatten).Perm OO.flatten).append_left D)
  rw[←List.append_assoc]
  refine List.Perm.append_right _ ?_
  exact(List.perm_append_comm (l₁:=(p,HO.lst xs)::Cs.flatten) (l₂:=D)))
 have nd:=w3.nd
 simp only[fl,List.flatten_cons,List.flatten_nil,List.append_nil,List.cons_append,List.map_cons] at nd
 have n2:=(List.nodup_cons.mp nd).2
 rw[List.map_append] at n2
 exact(List.nodup_append.mp n2).1
noncomputable def Cq (as:List α)(i:Int):Rs (α×List α):=chk (-(2^63)<=i/\i<2^63) (match seqIndex? i as.length with
 |none=>.bad
 |some k=>match as[k]? with
  |none=>.bad
  |some a=>.ok (a,as.eraseIdx k))
theorem Eu {as:List α}{i:Int}{p:α×List α}(h:Cq as i= .ok p):(-(2^63)<=i/\i<2^63)/\∃k,seqIndex? i as.length=some k/\as[k]?=some p.1/\p.2=as.eraseIdx k:=by
 obtain⟨h1,h2⟩:=Zc h
 refine⟨h1,?_⟩
 split at h2
 ·cases h2
 ·split at h2
  ·cases h2
  ·cases h2;exact⟨_,by assumption,by assumption,rfl⟩
theorem Eb {as:List α}{i:Int}{x:Exc}:Cq as i≠ .err x:=by
 unfold Cq chk;split
 ·split
  ·exact λz=>nomatch z
  ·split<;> exact λz=>nomatch z
 ·exact λz=>nomatch z
theorem Paired.erase' {F:α->γ->Prop}:∀{l:List α}{m:List γ} (n:Nat),Paired F l m->Paired F (l.eraseIdx n) (m.eraseIdx n)
 |_,_,_, .nil=>.nil
 |_,_,0, .cons _ t=>t
 |_,_,n+1, .cons r t=>.cons r (Paired.erase' n t)
theorem Ea {te ti:TE}{r:Enc α}[MonoE r]{mi:Rs Int}{f:α×List α->Rs β}{v:V}{as:List α}{C:List Xr}{D:Ends}{H:Hp}{Q:VK}(i k:Nat)(hσ:σ[i]?=some (some v))(hk:OO[k]?=some C)(h:∀x,S.p x->oL (oF r) K x v as C)(hi:EvB K Er S OO σ ti Xd mi)
  (w:W OO H)(s:S.p (hid H OO))(P:PZ Er (Fd D) (hid H OO) (mi.bind λj=>(Cq as j).bind f))
  (hr:∀a bs y C' H',W (OO.set k C') H'->((S.add K r y a).addO K (oL (oF r)) v bs C').p (hid H' (OO.set k C'))->PZ Er (Fd D) (hid H' (OO.set k C')) (f (a,bs))->Q y H'):tBM K "list" Dc (VM i) (XA ti Zy) σ H Q:=by
 obtain⟨p,xs,Cs,e,q,c⟩:=h _ s
 subst c
 have hH:H p=some (.lst xs):=w.tr (p, .lst xs) (List.mem_flatten.mpr ⟨_,List.mem_of_getElem? hk,List.mem_cons_self⟩)
 refine⟨v,hσ,by rw[e];exact .inl ⟨rfl,_,SqL.of hH⟩,hi.st w s P λj z H' s1 w' s' ho P'=>?_⟩
 subst e
 obtain⟨Cs2,q2,c2⟩:=Dl (h _ s')
 obtain⟨pr,hfl⟩:=P3.flat q2
 cases es:Cq as j with
 |bad=>rw[es] at P';exact P'.elim
 |err x=>exact absurd es Eb
 |ok pp=>
  rw[es] at P'
  obtain⟨a,bs⟩:=pp
  obtain⟨h1,kk,h2,h3,h4⟩:=Eu es
  obtain⟨y,hy,ry⟩:=Paired.getR pr h3
  have w0:W ([]::OO) H':=w'.nil
  have hk0:OO[k]?=some ((p, .lst xs)::([]:List (List Xr)).flatten):=by rw[hk,c2,hfl];rfl
  obtain⟨w3,m3⟩:=IE (D:=[]) (Cs:=[]) (xs':=xs.eraseIdx kk) (Cs':=List.replicate bs.length []) w0 hk0 (λc hc=>by rw[Yk] at hc;cases hc) (by rw[Yk];exact List.nodup_nil)
  rw[Zh] at m3
  refine⟨p,xs,j,kk,y,rfl,by rw[show z= .int j from ho],s1 _ _ hH,h1.1,h1.2,by rw[Paired.len pr];exact h2,hy,?_⟩
  have pr2:Paired (r K (hid H' OO)) (xs.eraseIdx kk) bs:=by rw[show bs=as.eraseIdx kk from h4];exact Paired.erase' kk pr
  exact hr a bs y _ _ w3 ⟨⟨S.mono _ _ m3 s',MonoE.mono m3 ry⟩,⟨p,_,_,rfl,(P3.of (Paired.imp2 (λ_ _ z=>MonoE.mono m3 z) pr2)).imp λ_ _ _ z=>z,rfl⟩⟩ (PZ.tr (fd.tr D) m3 P')
theorem C5 {ti:TE}{r:Enc α}[MonoE r]{mi:Rs Int}{f:List α->List α->Rs β}{v v2:V}{as zs:List α}{C C2:List Xr}(i k i2 k2:Nat)(hne:k2≠k)(hσ:σ[i]?=some (some v))(hk:OO[k]?=some C)(h:∀x,S.p x->oL (oF r) K x v as C)
  (hσ2:σ[i2]?=some (some v2))(hk2:OO[k2]?=some C2)(h2:∀x,S.p x->oL (oF r) K x v2 zs C2)(hi:EvB K Er S OO σ ti Xd mi)
  (hr:∀a bs C' C2',Sv Er ((S.addO K (oL (oF r)) v bs C').addO K (oL (oF r)) v2 (zs++[a]) C2') ((OO.set k C').set k2 C2') σ u Fd (f bs (zs++[a]))):
  Sv Er S OO σ (ZQ (UG (tBM K "list" Z4 (VM i2) (XA (tBM K "list" Dc (VM i) (XA ti Zy)) Zy))) u) Fd (mi.bind λj=>(Cq as j).bind λp=>chk (zs.length<sizeLine) (f p.2 (zs++[p.1]))):=λH D w s P=>by
 obtain⟨p2,xs2,Cs2,e2,q2,c2⟩:=h2 _ s
 subst c2
 have hH2:H p2=some (.lst xs2):=w.tr (p2, .lst xs2) (List.mem_flatten.mpr ⟨_,List.mem_of_getElem? hk2,List.mem_cons_self⟩)
 refine⟨v2,hσ2,by rw[e2];exact .inl ⟨rfl,_,SqL.of hH2⟩,Ea (te:=ti) i k hσ hk h hi w s P λa bs y C' H' w' s' P'=>?_⟩
 obtain⟨hsz,P'⟩:=PZ.chk P'
 subst e2
 obtain⟨Cs3,q3,c3⟩:=Dl (h2 _ s'.1.1)
 obtain⟨pr,hfl⟩:=P3.flat q3
 have hkk:(OO.set k C')[k2]?=some ((p2,HO.lst xs2)::([]:List (List Xr)).flatten):=by
  rw[List.getElem?_set_ne (λe=>hne e.symm),hk2,c3,hfl];rfl
 have hH3:H' p2=some (.lst xs2):=w'.tr (p2, .lst xs2) (List.mem_flatten.mpr ⟨_,List.mem_of_getElem? hkk,List.mem_cons_self⟩)
 obtain⟨w3,m3⟩:=IE (D:=[]) (Cs:=[]) (xs':=xs2++[y]) (Cs':=List.replicate (zs++[a]).length []) w'.nil hkk (λc hc=>by rw[Yk] at hc;cases hc) (by rw[Yk];exact List.nodup_nil)
 rw[Zh] at m3
 refine⟨p2,xs2,y,rfl,rfl,hH3,by rw[Paired.len pr];exact hsz,?_⟩
 refine hr a bs C' _ _ D w3 ⟨⟨S.mono _ _ m3 s'.1.1,(SC.oneO K (oL (oF r)) v bs C').mono _ _ m3 s'.2⟩,⟨p2,_,_,rfl,(P3.of (Paired.app (Paired.imp2 (λ_ _ z=>MonoE.mono m3 z) pr) (.cons (MonoE.mono m3 (show r K _ y a from s'.1.2)) .nil))).imp λ_ _ _ z=>z,rfl⟩⟩ (PZ.tr (fd.tr D) m3 P')
theorem By {ta tb:TE}{r:Enc α}{q:Enc γ}[z:MonoE r][MonoE q]{ma:Rs α}{mb:Rs γ}{f:α->γ->Rs β}(i j:Nat)(ha:EvS K Er S OO σ ta r ma)(hb:EvS K Er S OO σ tb q mb)
  (hr:∀a b v w,Sv Er ((S.add K r v a).add K q w b) OO ((σ.set i (some v)).set j (some w)) u Fd (f a b)):Sv Er S OO σ (ZQ (IJ i j (XA ta (XA tb Zy))) u) Fd (ma.bind λa=>mb.bind λb=>f a b):=λH D w s P=>
 ha.st w s P λa x H1 s1 w1 q1 r1 P1=>hb.st w1 q1 P1 λb y H2 s2 w2 q2 r2 P2=>⟨x,y,rfl,hr a b x y H2 D w2 ⟨⟨q2,z.mono (Xj s2) r1⟩,r2⟩ P2⟩
theorem QL:∀{xs:List V}{bs:List Bool}{H:Hp},Paired (Xz K H) xs bs->xs=bs.map V.bl
 |_,_,_, .nil=>rfl
 |_,_,_, .cons r t=>by rw[show _=V.bl _ from r,QL t];rfl
theorem Fg {ta:TE}{ma:Rs (List Bool)}(ha:EvB K Er S OO σ ta (rV Xz) ma):EvB K Er S OO σ (tCB (Iz K) (XA ta Zy)) Xz (ma.bind λa=>.ok (a.all id)):=λH Q w s P=>
 ha.run w s FB.tr P λa x H1 s1 w1 q1 r9 P1=>by obtain⟨p,xs,e,q,pr⟩:=r9;exact⟨p,a,by rw[e],by rw[←QL pr];exact SqL.of q,P1 _ H1 (Xp.refl _) rfl⟩
class TyE {α:Type}(r:Enc α)(n:outParam String):Prop where
 ty:∀{K:PySem.W.Frag}{H:Hp}{v:V}{a:α},r K H v a->TyOf K H v (.type n)
instance:TyE Xd "int":=⟨fun {K H v a} h=>by cases(show v= .int a from h);exact .int a⟩
instance:TyE Xz "bool":=⟨fun {K H v a} h=>by cases(show v= .bl a from h);exact .bl a⟩
instance:TyE XG "str":=⟨fun {K H v a} h=>by cases(show v= .str a from h);exact .str a⟩
instance {r:Enc α}:TyE (rV r) "list":=⟨λr9=>by obtain⟨p,xs,e,q,_⟩:=r9;exact by subst e;exact .lst q⟩
instance {r:Enc α}:TyE (rPL r) "tuple":=⟨λr9=>by obtain⟨p,xs,e,q,_⟩:=r9;exact by subst e;exact .tup q⟩
instance {r:Enc α}{q:Enc γ}:TyE (rP2 r q) "tuple":=⟨λr9=>by obtain⟨p,x,y,e,q,_⟩:=r9;exact by subst e;exact .tup q⟩
instance {r:Enc α}{q:Enc γ}{t:Enc δ}:TyE (rP3 r q t) "tuple":=⟨λr9=>by obtain⟨p,x,y,z,e,q,_⟩:=r9;exact by subst e;exact .tup q⟩
theorem Zw {te:TE}{r:Enc α}{n:String}[z:TyE r n]{m:Rs α}(t:String)(b:Bool)(hk:PySem.W.kitOne K (.type n) (.type t)=some b)(he:EvB K Er S OO σ te r m):
  EvB K Er S OO σ (tCB (λxs H Q=>∃ x n t b,xs=[x, .ty n]/\TyOf K H x t/\PySem.W.kitOne K t (.type n)=some b/\Q (.bl b) H) (XA te (XA (tC (.ty t)) Zy))) Xz (m.bind λ_=>.ok b):=λH Q w s P=>
 he.run w s FB.tr P λa x H1 s1 w1 q1 r1 P1=>⟨x,t, .type n,b,rfl,z.ty r1,hk,P1 _ H1 (Xp.refl _) rfl⟩
theorem UR {ta:TE}{ma:Rs Int}(ha:EvB K Er S OO σ ta Xd ma):EvB K Er S OO σ (tCB (λxs H Q=>∃ i:Int,xs=[.int i]/\Q (.int (if i<0 then-i else i)) H) (XA ta Zy)) Xd (ma.bind λa=>.ok (a.natAbs:Int)):=λH Q w s P=>
 ha.run w s FB.tr P λa x H1 s1 w1 q1 r1 P1=>⟨a,by rw[show x= .int a from r1],P1 _ H1 (Xp.refl _) (by show V.int _=V.int _;congr 1;omega)⟩
end
section
variable {K:PySem.W.Frag}{Er:Exc->Hp->Prop}{S:SC}{OO OO' OO1 OO2:List (List Xr)}{σ:St}{α β γ ρ ι δ ε:Type}
variable {Fd:Ends->β->Hp->Prop}[fd:FdOk Fd]{u:TS}
theorem Hv (n:Nat)(H:Hp):W (List.replicate n []) H:=⟨λc hc=>(by rw[Yk] at hc;cases hc),(by unfold fl;rw[Yk];exact List.nodup_nil),λc hc=>(by rw[Yk] at hc;cases hc)⟩
theorem Cv (n:Nat)(H:Hp):hid H (List.replicate n [])=H:=by funext b;unfold hid fl;rw[Yk];simp
theorem Bw {o:OE ρ}[z:MonoO o]{Q:VK}{b:ρ}{H:Hp}(q:FF K o Q b H):∀v C OO' H',W (C::OO') H'->Xp H (hid H' (C::OO'))->o K (hid H' (C::OO')) v b C->Q v H':=λv C OO' H' w m ho=>by
 have hs:Xp (hid H' (C::OO')) (hid H' [C]):=Vm (Xp.refl _) λb hb=>by
  rw[X6]
  refine List.mem_append_left _ ?_
  simpa[fl] using hb
 exact q v C H' (w.sub (by simp)) (m.trans hs) (z.mono hs ho)
theorem Y1 {o:OE ρ}[MonoO o]{t:TS}{m:Rs ρ}{Q:VK}{b:ρ}{H:Hp}{D:Ends}(n:Nat)(h:Sv (λ_ _=>False) S (List.replicate n []) σ t (FTd K o) m)(hs:S.p H)(hm:m= .ok b)(q:FF K o Q b H)(hD:D.rt=Q):t D σ H:=by
 refine h H D (Hv n H) (by rw[Cv];exact hs) ?_
 subst hm
 rw[Cv]
 intro v C OO' H' w mm ho
 rw[hD]
 exact Bw q v C OO' H' w mm ho
noncomputable def FAO {α:Type}(K:PySem.W.Frag)(OO OO':List (List Xr))(o:OE α)(Q:List V->Hp->Prop)(as:List α)(H:Hp):Prop:=∀ vs Cs H',Xp H H'->W (Cs.flatten::OO') H'->Xp (hid H OO) (hid H' (Cs.flatten::OO'))->P3 (o K (hid H' (Cs.flatten::OO'))) vs as Cs->Q vs H'
noncomputable def HI {α:Type}(K:PySem.W.Frag)(Er:Exc->Hp->Prop)(S:SC)(OO OO':List (List Xr))(σ:St)(t:TA)(o:OE α)(m:Rs (List α)):Prop:=∀ H Q,W OO H->S.p (hid H OO)->PZ Er (FAO K OO OO' o Q) H m->t σ H Q
theorem KQ {o:OE α}:HI K Er S OO OO σ Zy o (.ok []):=λH Q w s P=>P [] [] H (Xp.refl _) w.nil (by show Xp _ (hid H ([]::OO));rw[Zh];exact Xp.refl _) .nil
theorem ZL {te:TE}{t:TA}{o:OE α}[z:MonoO o]{m:Rs α}{n:Rs (List α)}(he:Ev K Er S OO OO1 σ te o m)(ht:∀C,HI K Er S (C::OO1) (C::OO2) σ t o n):HI K Er S OO OO2 σ (XA te t) o (m.bind λa=>n.bind λas=>.ok (a::as)):=λH Q w s P=>by
 refine he H _ w s ?_
 cases em:m with
 |bad=>rw[em] at P;exact P
 |err x=>rw[em] at P;exact P
 |ok a=>
  rw[em] at P
  intro v C H1 s1 w1 m1 ho
  refine ht C H1 _ w1 (S.mono _ _ m1 s) ?_
  have P1:PZ Er (FAO K OO OO2 o Q) H (n.bind λas=>.ok (a::as)):=P
  cases en:n with
  |bad=>rw[en] at P1;exact P1
  |err x=>rw[en] at P1;exact λH2 s2=>P1 H2 (s1.trans s2)
  |ok as=>
   rw[en] at P1
   have P1:FAO K OO OO2 o Q (a::as) H:=P1
   intro vs Cs H2 s2 w2 m2 pr
   have pe:((C::Cs).flatten::OO2).flatten.Perm (Cs.flatten::C::OO2).flatten:=by
    simp only[List.flatten_cons]
    rw[←List.append_assoc]
    exact List.perm_append_comm.append_right _
   refine P1 (v::vs) (C::Cs) H2 (s1.trans s2) (w2.of pe) ?_ ?_
   ·rw[Yn pe];exact m1.trans m2
   ·rw[Yn pe];exact .cons (z.mono m2 ho) pr
theorem F3 {t:TA}{o:OE α}[z:MonoO o]{m:Rs (List α)}(h:HI K Er S OO OO σ t o m):Ev K Er S OO OO σ (CL t) (oL o) (m.bind λas=>chk (as.length<=sizeLine) (.ok as)):=λH Q w s P=>by
 refine h H _ w s ?_
 cases e:m with
 |bad=>rw[e] at P;exact P
 |err x=>rw[e] at P;exact P
 |ok as=>
  rw[e] at P
  obtain⟨hsz,P⟩:=PZ.chk (show PZ Er _ H (chk (as.length<=sizeLine) (.ok as)) from P)
  intro vs Cs H1 s1 w1 m1 p
  exact⟨by rw[p.len.1];exact hsz,BJ w1 m1 s1 p P⟩
theorem Jp {ta tb tc:TE}{p q:Int->Int->Bool}{ma mb mc:Rs Int}(ha:EvB K Er S OO σ ta Xd ma)(hb:EvB K Er S OO σ tb Xd mb)(hc:EvB K Er S OO σ tc Xd mc):
  EvB K Er S OO σ (De (rI0 λi j=>.bl (p i j)) (rI0 λi j=>.bl (q i j)) ta tb tc) Xz (ma.bind λa=>mb.bind λb=>if p a b=true then mc.bind λc=>.ok (q b c) else .ok false):=λH Q w s P=>
 ha.run w s FB.tr P λa x H1 s1 w1 q1 r1 P1=>hb.run w1 q1 FB.tr P1 λb y H2 s2 w2 q2 r2 P2=>⟨a,b,r1,r2,p a b,rfl,by
  cases h:p a b with
  |false=>rw[h] at P2;exact P2 _ H2 (Xp.refl _) rfl
  |true=>
   rw[h,if_pos rfl] at P2
   rw[if_pos rfl]
   exact hc.run w2 q2 FB.tr P2 λc z H3 s3 w3 q3 r3 P3=>⟨b,c,r2,r3,P3 _ H3 (Xp.refl _) rfl⟩⟩
theorem G9 {α:Type}[DecidableEq α]{r r':Enc α}{d:Nat}(E:EqOk r d)(h:∀{K:PySem.W.Frag}{H:Hp}{v:V}{a:α},r' K H v a->r K H v a)(m:MonoE r'):EqOk r' d where
 uniq:=λI h1 h2=>E.uniq I (h h1) (h h2)
 eq:=λI rx ry h1 h2 hu=>E.eq I rx ry (h h1) (h h2) hu
 rc:=λI rx ry h1 h2 hu=>E.rc I rx ry (h h1) (h h2) hu
 ne:=λI rx ry h1 h2 hu=>E.ne I rx ry (h h1) (h h2) hu
 keep:=λs q=>m.mono s q
theorem Fi {α:Type}[DecidableEq α]{r:Enc α}{d:Nat}[m:MonoE r](E:EqOk r d):EqOk (rV r) (d+1):=G9 (BV E) (λr9=>by obtain⟨a,xs,e,q,p⟩:=r9;exact⟨a,xs,e,SqL.of q,p⟩) inferInstance
theorem UO {α β:Type}[DecidableEq α][DecidableEq β]{r:Enc α}{q:Enc β}{d:Nat}[m:MonoE r][n:MonoE q](E:EqOk r d)(F:EqOk q d):EqOk (rP2 r q) (d+1):=G9 (Ec E F) (λr9=>by obtain⟨a,x,y,e,q,p⟩:=r9;exact⟨a,x,y,e,SqT.of q,p⟩) inferInstance
end
section
variable {K:PySem.W.Frag}{Er:Exc->Hp->Prop}{S:SC}{OO OO' OO1 OO2:List (List Xr)}{σ:St}{α β γ ρ ι δ ε:Type}
variable {Fd:Ends->β->Hp->Prop}[fd:FdOk Fd]{u:TS}
theorem QW {ta tb:TE}{o:OE α}{q:OE β}[z:MonoO o][y:MonoO q]{ma:Rs α}{mb:Rs β}(ha:Ev K Er S OO OO1 σ ta o ma)(hb:∀C,Ev K Er S (C::OO1) (C::OO2) σ tb q mb):Ev K Er S OO OO2 σ (HW (XA ta (XA tb Zy))) (oT2 o q) (ma.bind λa=>mb.bind λb=>.ok (a,b)):=λH Q w s P=>by
 refine ha H _ w s ?_
 cases em:ma with
 |bad=>rw[em] at P;exact P
 |err x=>rw[em] at P;exact P
 |ok a=>
  rw[em] at P
  intro v C H1 s1 w1 m1 ho
  refine hb C H1 _ w1 (S.mono _ _ m1 s) ?_
  have P1:PZ Er (FO K OO OO2 (oT2 o q) Q) H (mb.bind λb=>.ok (a,b)):=P
  cases en:mb with
  |bad=>rw[en] at P1;exact P1
  |err x=>rw[en] at P1;exact λH2 s2=>P1 H2 (s1.trans s2)
  |ok b=>
   rw[en] at P1
   have P1:FO K OO OO2 (oT2 o q) Q (a,b) H:=P1
   intro v2 C2 H2 s2 w2 m2 ho2
   refine⟨by show 2<=sizeLine;decide,λp hp=>?_⟩
   have pe:((C++C2)::OO2).flatten.Perm (C2::C::OO2).flatten:=by
    simp only[List.flatten_cons]
    rw[←List.append_assoc]
    exact List.perm_append_comm.append_right _
   have s3:Xp H2 (upd H2 p (.tup [v,v2])):=Zq hp _
   have w3:=(w2.keep s3).of pe
   have m3:Xp (hid H2 (C2::C::OO2)) (hid (upd H2 p (.tup [v,v2])) ((C++C2)::OO2)):=by rw[Yn pe];exact Xj s3
   refine P1 (.ref p) (C++C2) _ (s1.trans (s2.trans s3)) w3 (m1.trans (m2.trans m3)) ⟨p,v,v2,C,C2,rfl,?_,z.mono (m2.trans m3) ho,y.mono m3 ho2,rfl⟩
   rw[Yn pe]
   exact KL w2 hp
theorem Uo:∀{l:List Xr}{a b:Xr},(l.map (·.1)).Nodup->a∈l->b∈l->a.1=b.1->a=b
 | [],_,_,_,h,_,_=>by cases h
 |c::l,a,b,n,ha,hb,e=>by
  rw[List.map_cons,List.nodup_cons] at n
  cases ha with
  |head=>cases hb with
   |head=>rfl
   |tail _ hb=>exact absurd (List.mem_map.mpr ⟨b,hb,e.symm⟩) n.1
  |tail _ ha=>cases hb with
   |head=>exact absurd (List.mem_map.mpr ⟨a,ha,e⟩) n.1
   |tail _ hb=>exact Uo n.2 ha hb e
theorem ZA {Cs:List (List Xr)}{k:Nat}{C:List Xr}(h:Cs[k]?=some C):∀c∈C,c∈Cs.flatten:=λc hc=>List.mem_flatten.mpr ⟨C,List.mem_of_getElem? h,hc⟩
theorem Bq {as:List α}{i:Int}{a:α}(h:atR as i= .ok a):∃k,ixN as.length i=some k/\as[k]?=some a:=by
 have:=F7 h
 unfold atI at this
 cases e:ixN as.length i with
 |none=>rw[e] at this;cases this
 |some k=>rw[e] at this;exact⟨k,rfl,this⟩
theorem Vk {r:Enc α}[z:MonoE r]{v:V}{as:List (List α)}{row row':List α}{H:Hp}{p q:Addr}{xs ys ys':List V}{Cs:List (List Xr)}{k kk:Nat}(w:W OO H)(hk:OO[k]?=some ((p, .lst xs)::Cs.flatten))(hP:P3 (oL (oF r) K (hid H OO)) xs as Cs)(hrow:as[kk]?=some row)
  (hx:xs[kk]?=some (.ref q))(hq:H q=some (.lst ys))(hcs:Cs[kk]?=some [(q, .lst ys)])(pr:Paired (r K (hid H OO)) ys' row'):
  ∃C',W (OO.set k C') (upd H q (.lst ys'))/\Xp (hid H OO) (hid (upd H q (.lst ys')) (OO.set k C'))/\oL (oL (oF r)) K (hid (upd H q (.lst ys')) (OO.set k C')) (.ref p) (as.set kk row') C':=by
 have hkl:kk<Cs.length:=by
  rcases Nat.lt_or_ge kk Cs.length with h |h
  ·exact h
  ·rw[List.getElem?_eq_none h] at hcs;cases hcs
 have hin:∀c∈(p,HO.lst xs)::Cs.flatten,c∈OO.flatten:=λc hc=>List.mem_flatten.mpr ⟨_,List.mem_of_getElem? hk,hc⟩
 have w0:W ([]::OO) H:=w.nil
 have cn0:=UU w0 hk
 rw[List.append_nil] at cn0
 have e0:Cs[kk]=[(q, .lst ys)]:=by
  rw[List.getElem?_eq_getElem hkl] at hcs;exact Option.some.inj hcs
 have hp:=Cb (Cs:=Cs) (j:=kk) (D:=[(q,HO.lst ys')]) hkl
 rw[e0] at hp
 have hpm:((Cs.set kk [(q,HO.lst ys')]).flatten.map (·.1)).Perm (Cs.flatten.map (·.1)):=by
  have:=hp.map (·.1)
  simp only[List.map_append,List.map_cons,List.map_nil] at this
  exact(List.perm_append_right_iff _).mp this
 have hpne:p∉Cs.flatten.map (·.1):=by
  have h1:=XR hk
  have:=(w.of (OO':=((p,HO.lst xs)::Cs.flatten)::OO.set k []) h1).nd
  rw[X6,List.map_cons,List.cons_append,List.nodup_cons] at this
  exact λz=>this.1 (List.mem_append_left _ z)
 have hqC:q∈Cs.flatten.map (·.1):=List.mem_map.mpr ⟨(q, .lst ys),ZA hcs _ (by simp),rfl⟩
 have hpq:p≠q:=λe=>hpne (e▸hqC)
 have hcells:∀c∈(p,HO.lst xs)::(Cs.set kk [(q,HO.lst ys')]).flatten,upd H q (.lst ys') c.1=some c.2/\EI c.2=true:=λc hc=>by
  rcases List.mem_cons.mp hc with rfl |hc
  ·rw[Xw hpq];exact⟨w.tr _ (hin _ List.mem_cons_self),rfl⟩
  ·obtain⟨D,hD,hcD⟩:=List.mem_flatten.mp hc
   rcases List.mem_or_eq_of_mem_set hD with hD |hD
   ·by_cases hcq:c.1=q
    ·-- a cell at q in another place:then it is this one
     have hc2:c∈(Cs.set kk [(q,HO.lst ys')]).flatten:=hc
     have n1:((Cs.set kk [(q,HO.lst ys')]).flatten.map (·.1)).Nodup:=hpm.nodup_iff.mpr cn0
     have hm:(q,HO.lst ys')∈(Cs.set kk [(q,HO.lst ys')]).flatten:=List.mem_flatten.mpr ⟨[(q, .lst ys')],List.mem_set (by simpa using hkl) _,by simp⟩
     have e1:c=(q,HO.lst ys'):=by
      have:=Uo n1 hc2 hm hcq
      exact this
     rw[e1];exact⟨Yf,rfl⟩
    ·rw[Xw hcq]
     have:c∈OO.flatten:=hin c (List.mem_cons_of_mem _ (List.mem_flatten.mpr ⟨D,hD,hcD⟩))
     exact⟨w.tr c this,w.mu c this⟩
   ·rw[hD] at hcD
    have e1:c=(q,HO.lst ys'):=by simpa using hcD
    rw[e1];exact⟨Yf,rfl⟩
 have hq':q∈(Cs.set kk [(q,HO.lst ys')]).flatten.map (·.1):=hpm.mem_iff.mpr hqC
 obtain⟨w2,m2⟩:=Hn (C':=(p, .lst xs)::(Cs.set kk [(q,HO.lst ys')]).flatten) (p:=q) (o:=.lst ys') w0 hk (List.mem_cons_of_mem _ hqC) (List.mem_cons_of_mem _ hq') (by
   rw[List.map_cons,List.nodup_cons]
   exact⟨λz=>hpne (hpm.mem_iff.mp z),hpm.nodup_iff.mpr cn0⟩) (λb hb=>by
   rw[List.append_nil]
   rcases List.mem_cons.mp hb with rfl |hb
   ·exact List.mem_cons_self
   ·exact List.mem_cons_of_mem _ (hpm.mem_iff.mp hb)) (λc hc=>(hcells c hc).1) λc hc=>(hcells c hc).2
 rw[Zh] at m2
 have e3:xs.set kk (.ref q)=xs:=by
  apply List.ext_getElem?
  intro n
  by_cases hn:n=kk
  ·subst hn
   rw[hx,List.getElem?_set_self (by
    rcases Nat.lt_or_ge n xs.length with h |h
    ·exact h
    ·rw[List.getElem?_eq_none h] at hx;cases hx)]
  ·rw[List.getElem?_set_ne (λe=>hn e.symm)]
 refine⟨_,w2,m2,⟨p,xs,Cs.set kk [(q,HO.lst ys')],rfl,?_,rfl⟩⟩
 have:=P3.set (F:=oL (oF r) K (hid (upd H q (.lst ys')) (OO.set k ((p, .lst xs)::(Cs.set kk [(q,HO.lst ys')]).flatten)))) (a:=V.ref q) (b:=row') (c:=[(q,HO.lst ys')])
  ⟨q,ys',List.replicate row'.length [],rfl,(P3.of (Paired.imp2 (λ_ _ h=>z.mono m2 h) pr)).imp λ_ _ _ h=>h,by rw[Yk]⟩ kk (P3.imp (λ_ _ _ h=>MonoO.mono m2 h) hP)
 rw[e3] at this
 exact this
theorem Jt {r:Enc α}{h:Hp}{as:List (List α)}{xs:List V}{Cs:List (List Xr)}{kk:Nat}{row:List α}(q:P3 (oL (oF r) K h) xs as Cs)(hrow:as[kk]?=some row):∃q0 ys,xs[kk]?=some (.ref q0)/\Cs[kk]?=some [(q0, .lst ys)]/\Paired (r K h) ys row:=by
 obtain⟨x,c,h1,h2,p,ys,Ds,e,h3,h4⟩:=q.get hrow
 obtain⟨h5,h6⟩:=P3.flat h3
 rw[h6] at h4
 exact⟨p,ys,by rw[h1,e],by rw[h2,h4],h5⟩
theorem Qs {F:V->α->Prop}{y:V}{a:α}(r:F y a):∀{l:List V}{m:List α} (i:Nat),Paired F l m->Paired F (l.set i y) (m.set i a)
 |_,_,_, .nil=>.nil
 |_,_,0, .cons _ t=>.cons r t
 |_,_,i+1, .cons q t=>.cons q (Qs r i t)
theorem Db {ta ti tj:TE}{r:Enc α}[z:MonoE r]{m:Rs α}{mi mj:Rs Int}{f:List (List α)->Rs β}{v:V}{as:List (List α)}{C:List Xr}(i k:Nat)(hσ:σ[i]?=some (some v))(hk:OO[k]?=some C)(h:∀x,S.p x->oL (oL (oF r)) K x v as C)(he:EvS K Er S OO σ ta r m)
  (hi:EvB K Er S OO σ ti Xd mi)(hj:EvB K Er S OO σ tj Xd mj)
  (hr:∀bs C',Sv Er (S.addO K (oL (oL (oF r))) v bs C') (OO.set k C') σ u Fd (f bs)):
  Sv Er S OO σ (ZQ (GV ta (Il (tOp (Ei K) (VM i) ti) tj BH)) u) Fd (m.bind λa=>mi.bind λx=>(atR as x).bind λrow=>mj.bind λy=>(Qa row y a).bind λrow'=>(Qa as x row').bind f):=λH D w s P=>
 he.st w s P λa va H1 s1 w1 q1 r1 P1=>⟨v,hσ,hi.st w1 q1 P1 λx vx H2 s2 w2 q2 r2 P2=>by
  cases ea:atR as x with
  |bad=>rw[ea] at P2;exact P2.elim
  |err ex=>exact absurd ea Ks
  |ok row=>
   rw[ea] at P2
   obtain⟨kk,hkk,hrow⟩:=Bq ea
   obtain⟨p,xs,Cs,e,q,c⟩:=h _ q2
   subst c e
   obtain⟨q0,ys,g1,g2,g3⟩:=Jt q hrow
   have hin:∀c∈(p,HO.lst xs)::Cs.flatten,c∈OO.flatten:=λc hc=>List.mem_flatten.mpr ⟨_,List.mem_of_getElem? hk,hc⟩
   have hH:H2 p=some (.lst xs):=w2.tr (p, .lst xs) (hin _ List.mem_cons_self)
   have hq0:H2 q0=some (.lst ys):=w2.tr (q0, .lst ys) (hin _ (List.mem_cons_of_mem _ (ZA g2 _ (by simp))))
   refine⟨p,xs,x, .ref q0,rfl,r2,SqL.of hH,by unfold atI;rw[q.len.1,hkk];exact g1,hj.st w2 q2 (f:=λy=>(Qa row y a).bind λrow'=>(Qa as x row').bind f) P2 λy vy H3 s3 w3 q3 r3 P3'=>?_⟩
   cases eb:Qa row y a with
   |bad=>rw[eb] at P3';exact P3'.elim
   |err ex=>exact absurd eb F8
   |ok row'=>
    rw[eb] at P3'
    obtain⟨jj,hjj,rfl⟩:=Fp eb
    have P4:PZ Er (Fd D) (hid H3 OO) (f (as.set kk (row.set jj a))):=by
     have e5:Qa as x (row.set jj a)= .ok (as.set kk (row.set jj a)):=by unfold Qa;rw[hkk]
     have:PZ Er (Fd D) (hid H3 OO) ((Qa as x (row.set jj a)).bind f):=P3'
     rw[e5] at this
     exact this
    have m3:=Xj (OO:=OO) s3
    obtain⟨C',w4,m4,o4⟩:=Vk (ys':=ys.set jj va) (row':=row.set jj a) (v:=.ref p) w3 hk (P3.imp (λ_ _ _ h=>MonoO.mono m3 h) q) hrow g1 (s3 _ _ hq0) g2 (Qs (z.mono ((Xj s2).trans m3) r1) jj (Paired.imp2 (λ_ _ h=>z.mono m3 h) g3))
    exact⟨q0,ys,y,jj,rfl,r3,s3 _ _ hq0,by rw[Paired.len g3];exact hjj,hr _ C' _ D w4 ⟨S.mono _ _ m4 q3,o4⟩ (PZ.tr (fd.tr D) m4 P4)⟩⟩
theorem Cz {ta ti:TE}{r:Enc α}[z:MonoE r]{m:Rs α}{mi:Rs Int}{f:List (List α)->Rs β}{v:V}{as:List (List α)}{C:List Xr}(i k:Nat)(hσ:σ[i]?=some (some v))(hk:OO[k]?=some C)(h:∀x,S.p x->oL (oL (oF r)) K x v as C)(he:EvS K Er S OO σ ta r m)
  (hi:EvB K Er S OO σ ti Xd mi)
  (hr:∀bs C',Sv Er (S.addO K (oL (oL (oF r))) v bs C') (OO.set k C') σ u Fd (f bs)):
  Sv Er S OO σ (ZQ (UG (tBM K "list" Z4 (tOp (Ei K) (VM i) ti) (XA ta Zy))) u) Fd (mi.bind λx=>(atR as x).bind λrow=>m.bind λa=>chk (row.length<sizeLine) ((Qa as x (row++[a])).bind f)):=λH D w s P=>
 ⟨v,hσ,hi.st w s P λx vx H2 s2 w2 q2 r2 P2=>by
  cases ea:atR as x with
  |bad=>rw[ea] at P2;exact P2.elim
  |err ex=>exact absurd ea Ks
  |ok row=>
   rw[ea] at P2
   obtain⟨kk,hkk,hrow⟩:=Bq ea
   obtain⟨p,xs,Cs,e,q,c⟩:=h _ q2
   subst c e
   obtain⟨q0,ys,g1,g2,g3⟩:=Jt q hrow
   have hin:∀c∈(p,HO.lst xs)::Cs.flatten,c∈OO.flatten:=λc hc=>List.mem_flatten.mpr ⟨_,List.mem_of_getElem? hk,hc⟩
   have hH:H2 p=some (.lst xs):=w2.tr (p, .lst xs) (hin _ List.mem_cons_self)
   have hq0:H2 q0=some (.lst ys):=w2.tr (q0, .lst ys) (hin _ (List.mem_cons_of_mem _ (ZA g2 _ (by simp))))
   refine⟨p,xs,x, .ref q0,rfl,r2,SqL.of hH,by unfold atI;rw[q.len.1,hkk];exact g1, .inl ⟨rfl,_,SqL.of hq0⟩,he.st w2 q2 (f:=λa=>chk (row.length<sizeLine) ((Qa as x (row++[a])).bind f)) P2 λa va H3 s3 w3 q3 r3 P3'=>?_⟩
   obtain⟨hsz,P3'⟩:=PZ.chk P3'
   have P4:PZ Er (Fd D) (hid H3 OO) (f (as.set kk (row++[a]))):=by
    have e5:Qa as x (row++[a])= .ok (as.set kk (row++[a])):=by unfold Qa;rw[hkk]
    rw[e5] at P3'
    exact P3'
   have m3:=Xj (OO:=OO) s3
   obtain⟨C',w4,m4,o4⟩:=Vk (ys':=ys++[va]) (row':=row++[a]) (v:=.ref p) w3 hk (P3.imp (λ_ _ _ h=>MonoO.mono m3 h) q) hrow g1 (s3 _ _ hq0) g2 (Paired.app (Paired.imp2 (λ_ _ h=>z.mono m3 h) g3) (.cons r3 .nil))
   exact⟨q0,ys,va,rfl,rfl,s3 _ _ hq0,by rw[Paired.len g3];exact hsz,hr _ C' _ D w4 ⟨S.mono _ _ m4 q3,o4⟩ (PZ.tr (fd.tr D) m4 P4)⟩⟩
theorem H9 {H H':Hp}{C D:List Xr}{k:Nat}(w:W OO H)(hk:OO[k]?=some C)(s:Xp H H')(w':W (D::OO.set k []) H')(m:Xp (hid H (OO.set k [])) (hid H' (D::OO.set k []))):
  W (D::OO) H'/\Xp (hid H OO) (hid H' (D::OO))/\QP (hid H' (D::OO.set k [])) (hid H' (D::OO)):=by
 have hp:=XR hk
 have wk:W (C::OO.set k []) H:=w.of hp
 have hC:∀c∈C,hid H (OO.set k []) c.1=some c.2:=λc hc=>Zm (wk.cell c hc) (by
  have:=wk.nd
  rw[X6] at this
  exact λhb=>(List.nodup_append.mp this).2.2 c.1 (List.mem_map.mpr ⟨c,hc,rfl⟩) c.1 hb rfl)
 have hC':∀c∈C,H' c.1=some c.2/\c.1∉fl (D::OO.set k []):=λc hc=>XW (m _ _ (hC c hc))
 have w2:W (C::D::OO.set k []) H':=by
  refine⟨λc hc=>?_,?_,λc hc=>?_⟩
  ·rw[List.flatten_cons,List.mem_append] at hc
   exact hc.elim (λhc=>(hC' c hc).1) λhc=>w'.tr c hc
  ·rw[X6]
   refine List.nodup_append.mpr ⟨?_,w'.nd,λa ha b hb e=>?_⟩
   ·have:=wk.nd
    rw[X6] at this
    exact(List.nodup_append.mp this).1
   ·obtain⟨c,hc,rfl⟩:=List.mem_map.mp ha
    subst e
    exact(hC' c hc).2 hb
  ·rw[List.flatten_cons,List.mem_append] at hc
   exact hc.elim (λhc=>wk.mu c (by simp[hc])) λhc=>w'.mu c hc
 have pe:(D::OO).flatten.Perm (C::D::OO.set k []).flatten:=by
  simp only[List.flatten_cons]
  refine List.Perm.trans (List.Perm.append_left D (by simpa using hp.symm:OO.flatten.Perm (C++(OO.set k []).flatten))) ?_
  rw[←List.append_assoc, ←List.append_assoc]
  exact List.perm_append_comm.append_right _
 have w3:=w2.of pe
 refine⟨w3,λb u q=>?_,λb u q i=>w3.i b u (XW q).1 i⟩
 obtain⟨q1,q2⟩:=XW q
 have q3:hid H (OO.set k []) b=some u:=Zm q1 λz=>q2 ((Qt hp b).mp (by rw[X6];simp[z]))
 obtain⟨q4,q5⟩:=XW (m _ _ q3)
 refine Zm q4 λz=>?_
 have z2:=(Qt pe b).mp z
 rw[X6,List.mem_append] at z2
 rcases z2 with z2 |z2
 ·exact q2 ((Qt hp b).mp (by rw[X6];exact List.mem_append_left _ z2))
 ·exact q5 z2
theorem Ij {r1:Enc γ}{o1:OE γ}[z:FrzC o1 r1][MonoE r1]{H:Hp}{v:V}{a:γ}{C:List Xr}{k:Nat}(w:W OO H)(hk:OO[k]?=some C)(s:S.p (hid H OO))(h:∀x,S.p x->o1 K x v a C):
  W (OO.set k []) H/\(S.add K r1 v a).p (hid H (OO.set k [])):=by
 have hp:=XR hk
 have wk:W (C::OO.set k []) H:=w.of hp
 have hs:Xp (hid H OO) (hid H (OO.set k [])):=by
  rw[←Yn hp]
  exact Vm (Xp.refl _) λb hb=>by rw[X6];simp[hb]
 refine⟨wk.tail,S.mono _ _ hs s,z.frz (h _ s) hs λc hc=>Zm (wk.cell c hc) ?_⟩
 have:=wk.nd
 rw[X6] at this
 exact λhb=>(List.nodup_append.mp this).2.2 c.1 (List.mem_map.mpr ⟨c,hc,rfl⟩) c.1 hb rfl
theorem Ep {te:TE}{o:OE α}[y:FlatO o]{r1:Enc γ}{o1:OE γ}[FrzC o1 r1][MonoE r1]{m:Rs α}{v:V}{a:γ}{C:List Xr}(k:Nat)(hk:OO[k]?=some C)(h:∀x,S.p x->o1 K x v a C)(he:Ev K Er (S.add K r1 v a) (OO.set k []) (OO.set k []) σ te o m):Ev K Er S OO OO σ te o m:=λH Q w s P=>by
 obtain⟨w1,s1⟩:=Ij (r1:=r1) w hk s h
 refine he H Q w1 s1 (P.imp λb _ hb v' D H' s' w' m' ho=>?_)
 obtain⟨w3,m3,i3⟩:=H9 w hk s' w' m'
 exact hb v' D H' s' w3 m3 (y.flat i3 ho)
theorem QY (K:PySem.W.Frag)(T:String):PySem.W.kitOne K (.type T) (.type T)=some true:=by
 unfold PySem.W.kitOne
 rw[if_pos (beq_self_eq_true _)]
theorem Uj (K:PySem.W.Frag):PySem.W.kitOne K (.type "int") (.type "bool")=some false:=by
 first
  |rfl
  |decide+kernel
  | (unfold PySem.W.kitOne PySem.W.kitCls;rfl)
end
section
variable {K:PySem.W.Frag}{Er:Exc->Hp->Prop}{S:SC}{OO OO' OO1 OO2:List (List Xr)}{σ:St}{α β γ ρ ι δ ε:Type}
variable {Fd:Ends->β->Hp->Prop}[fd:FdOk Fd]{u:TS}
end
section
variable {K:PySem.W.Frag}{Er:Exc->Hp->Prop}{S:SC}{OO OO' OO1 OO2:List (List Xr)}{σ:St}{α β γ ρ ι δ ε:Type}
variable {α1 α2 α3 α4 α5:Type}
noncomputable def rP4 (r1:Enc α1)(r2:Enc α2)(r3:Enc α3)(r4:Enc α4):Enc (α1×α2×α3×α4):=λK H v p=>∃ a x1 x2 x3 x4,v= .ref a/\H a=some (.tup [x1,x2,x3,x4])/\r1 K H x1 p.1/\r2 K H x2 p.2.1/\r3 K H x3 p.2.2.1/\r4 K H x4 p.2.2.2
instance {r1:Enc α1}{r2:Enc α2}{r3:Enc α3}{r4:Enc α4}[m1:MonoE r1][m2:MonoE r2][m3:MonoE r3][m4:MonoE r4]:MonoE (rP4 r1 r2 r3 r4):=⟨λs r9=>by obtain⟨a,x1,x2,x3,x4,e,h,p1,p2,p3,p4⟩:=r9;exact⟨a,x1,x2,x3,x4,e,s _ _ h,m1.mono s p1,m2.mono s p2,m3.mono s p3,m4.mono s p4⟩⟩
instance {r1:Enc α1}{r2:Enc α2}{r3:Enc α3}{r4:Enc α4}[m1:FlatE r1][m2:FlatE r2][m3:FlatE r3][m4:FlatE r4]:FlatE (rP4 r1 r2 r3 r4):=⟨λs r9=>by obtain⟨a,x1,x2,x3,x4,e,h,p1,p2,p3,p4⟩:=r9;exact⟨a,x1,x2,x3,x4,e,s _ _ h rfl,m1.flat s p1,m2.flat s p2,m3.flat s p3,m4.flat s p4⟩⟩
instance {r1:Enc α1}{r2:Enc α2}{r3:Enc α3}{r4:Enc α4}:TyE (rP4 r1 r2 r3 r4) "tuple":=⟨λr9=>by obtain⟨p,x1,x2,x3,x4,e,q,_⟩:=r9;exact by subst e;exact .tup q⟩
noncomputable def rP5 (r1:Enc α1)(r2:Enc α2)(r3:Enc α3)(r4:Enc α4)(r5:Enc α5):Enc (α1×α2×α3×α4×α5):=λK H v p=>∃ a x1 x2 x3 x4 x5,v= .ref a/\H a=some (.tup [x1,x2,x3,x4,x5])/\r1 K H x1 p.1/\r2 K H x2 p.2.1/\r3 K H x3 p.2.2.1/\r4 K H x4 p.2.2.2.1/\r5 K H x5 p.2.2.2.2
instance {r1:Enc α1}{r2:Enc α2}{r3:Enc α3}{r4:Enc α4}{r5:Enc α5}[m1:MonoE r1][m2:MonoE r2][m3:MonoE r3][m4:MonoE r4][m5:MonoE r5]:MonoE (rP5 r1 r2 r3 r4 r5):=⟨λs r9=>by obtain⟨a,x1,x2,x3,x4,x5,e,h,p1,p2,p3,p4,p5⟩:=r9;exact⟨a,x1,x2,x3,x4,x5,e,s _ _ h,m1.mono s p1,m2.mono s p2,m3.mono s p3,m4.mono s p4,m5.mono s p5⟩⟩
instance {r1:Enc α1}{r2:Enc α2}{r3:Enc α3}{r4:Enc α4}{r5:Enc α5}[m1:FlatE r1][m2:FlatE r2][m3:FlatE r3][m4:FlatE r4][m5:FlatE r5]:FlatE (rP5 r1 r2 r3 r4 r5):=⟨λs r9=>by obtain⟨a,x1,x2,x3,x4,x5,e,h,p1,p2,p3,p4,p5⟩:=r9;exact⟨a,x1,x2,x3,x4,x5,e,s _ _ h rfl,m1.flat s p1,m2.flat s p2,m3.flat s p3,m4.flat s p4,m5.flat s p5⟩⟩
instance {r1:Enc α1}{r2:Enc α2}{r3:Enc α3}{r4:Enc α4}{r5:Enc α5}:TyE (rP5 r1 r2 r3 r4 r5) "tuple":=⟨λr9=>by obtain⟨p,x1,x2,x3,x4,x5,e,q,_⟩:=r9;exact by subst e;exact .tup q⟩
noncomputable def rDP {α:Type}(r:Enc α)(K:PySem.W.Frag)(H:Hp)(kv:Key×V)(kx:Int×α):Prop:=kv.1= .inl kx.1/\r K H kv.2 kx.2
noncomputable def rD {α:Type}(r:Enc α):Enc (List (Int×α)):=λK H v d=>∃ p kvs,v= .ref p/\H p=some (.dK kvs)/\Paired (rDP r K H) kvs d
noncomputable def oD {α:Type}(r:Enc α):OE (List (Int×α)):=λK h v d C=>∃ p kvs,v= .ref p/\Paired (rDP r K h) kvs d/\C=[(p, .dK kvs)]
instance {r:Enc α}[m:MonoE r]:MonoE (rD r):=⟨λs r9=>by obtain⟨p,kvs,e,q,pr⟩:=r9;exact⟨p,kvs,e,s _ _ q,Paired.imp2 (λ_ _ z=>⟨z.1,m.mono s z.2⟩) pr⟩⟩
instance {r:Enc α}[m:MonoE r]:MonoO (oD r):=⟨λs r9=>by obtain⟨p,kvs,e,pr,c⟩:=r9;exact⟨p,kvs,e,Paired.imp2 (λ_ _ z=>⟨z.1,m.mono s z.2⟩) pr,c⟩⟩
instance {r:Enc α}[m:FlatE r]:FlatO (oD r):=⟨λs r9=>by obtain⟨p,kvs,e,pr,c⟩:=r9;exact⟨p,kvs,e,Paired.imp2 (λ_ _ z=>⟨z.1,m.flat s z.2⟩) pr,c⟩⟩
instance {r:Enc α}[m:MonoE r]:FrzC (oD r) (rD r):=⟨λr9 s hc=>by obtain⟨p,kvs,e,pr,c⟩:=r9;exact⟨p,kvs,e,hc (p, .dK kvs) (by rw[c];simp),Paired.imp2 (λ_ _ z=>⟨z.1,m.mono s z.2⟩) pr⟩⟩
variable {Fd:Ends->β->Hp->Prop}[fd:FdOk Fd]{u:TS}
end
theorem YU.ex {P:Program}{w:World}{H:Hp}{h:Heap}{a:Addr}{o:HO}(x:YU P w H h a o):∃u,h.get? a=some u:=by
 cases o with
 |lst xs=>obtain⟨_,_,_,_,e⟩:=x;exact⟨_,e⟩
 |tup xs=>obtain⟨_,_,_,p⟩:=x;obtain⟨o,e,_⟩:=p;exact⟨_,e⟩
 |dK kvs=>obtain⟨_,_,_,_,o,_,_,e,_⟩:=x;exact⟨_,e⟩
 |dT kvs=>obtain⟨_,_,_,_,o,_,_,e,_⟩:=x;exact⟨_,e⟩
 |set S n=>obtain⟨o,_,_,_,e,_⟩:=x;exact⟨_,e⟩
 |ins C dx fs=>obtain⟨_,_,_,e,_⟩:=x;exact⟨_,e⟩
 |own y=>exact x
 |xd fs=>obtain⟨_,⟨_,_,_,e,_⟩,_⟩:=x;exact⟨_,e⟩
 |rng lo hi=>obtain⟨_,_,_,e⟩:=x;exact⟨_,e⟩
 |frz ob u=>exact⟨_,x.1⟩
 |tbl ps=>exact⟨_,x⟩
 |met f y=>exact⟨_,x⟩
 |ext φ=>exact x.2.1
theorem HOk.un0 {P:Program}{w:World}{H:Hp}{h:Heap}{a:Addr}(x:HOk P w H h)(e:h.get? a=none):H a=none:=by
 cases q:H a with
 |none=>rfl
 |some u=>obtain⟨v,hv⟩:=(x a u q).ex;rw[e] at hv;cases hv
structure Fl (h0 h:Heap)(H:Hp)(a T:Addr)(cls:Value):Prop where
 na:h0.get? a=none
 nT:h0.get? T=none
 fa:H a=none
 fT:H T=none
 ne:T≠a
 obj:∃oe vs oT ts a0,h.get? a=some oe/\oe.cls=cls/\vs[0]?=some a0/\oe.data= .fields vs/\vs[1]?=some (.ref T)/\h.get? T=some oT/\oT.data= .fields ts/\ts[3]?=some Value.none
noncomputable def Dn (h:Heap)(fs:List Addr)(a T:Addr):Heap:=DO h (λb=>if b∈fs∨b=a∨b=T then some (.own 0) else none)
theorem ZR {h:Heap}{fs:List Addr}{a T b:Addr}{o:Obj}(e:h.get? b=some o)(n1:b∉fs)(n2:b≠a)(n3:b≠T):(Dn h fs a T).get? b=some o:=
 K1 e (if_neg λz=>z.elim n1 λz=>z.elim n2 n3)
theorem Vf {h:Heap}{fs:List Addr}{a T b:Addr}{o:Obj}(e:(Dn h fs a T).get? b=some o):h.get? b=some o/\b∉fs/\b≠a/\b≠T:=by
 obtain⟨h1,h2⟩:=Dz e
 have h3:¬(b∈fs∨b=a∨b=T):=λz=>by
  have:=(if_pos z).symm.trans h2
  cases this
 exact⟨h1,λq=>h3 (.inl q),λq=>h3 (.inr (.inl q)),λq=>h3 (.inr (.inr q))⟩
theorem Zd {h:Heap}{fs:List Addr}{a T b:Addr}(n:b∈fs∨b=a∨b=T):(Dn h fs a T).get? b=none:=by
 cases q:(Dn h fs a T).get? b with
 |none=>rfl
 |some o=>
  obtain⟨_,h1,h2,h3⟩:=Vf q
  exact(n.elim h1 λz=>z.elim h2 h3).elim
theorem VL {h base B:Heap}:∀{l:List Env},h.FunFrames base l->(∀b∈frs l,B.get? b=none)->h.FunFrames B l
 | [],_,_=>trivial
 |env::r,⟨hk,⟨L,o,hf,hn,ho,hd⟩,hr⟩,n=>
  ⟨hk,⟨L,o,hf,n L (by unfold frs;rw[List.filterMap_cons,hf];exact List.mem_cons_self),ho,hd⟩,VL hr λb hb=>n b (by unfold frs;rw[List.filterMap_cons,hf];exact List.mem_cons_of_mem _ hb)⟩
section
variable {P:Program}{w:World}{h0 h h' base:Heap}{H:Hp}{a T:Addr}{cls a0:Value}{l:List Env}
theorem Fl.fly (x:Fl h0 h H a T cls)(hl:h.FunFrames base l):∃a0,Heap.FlyingW (Dn h (frs l) a T) l a cls a0 h:=by
 obtain⟨oe,vs,oT,ts,a0,ha,hc,h0',hd,h1,hT,hdT,h3⟩:=x.obj
 exact⟨a0,λb o e=>(Vf e).1,Zd (.inr (.inl rfl)),VL hl λb hb=>Zd (.inl hb),oe,vs,T,oT,ts,ha,⟨hc,h0'⟩,hd,h1,Zd (.inr (.inr rfl)),x.ne,hT,hdT,h3⟩
theorem Un.traced (hl:h.FunFrames base l)(keep:∀b o,b∉frs l->b≠a->b≠T->h.get? b=some o->h'.get? b=some o)(up:h.UpToSlots h'):Un (frs l) [a,T] H H h h' where
 keep:=λb o e _ hb hx=>keep b o hb (λz=>hx (by simp[z])) (λz=>hx (by simp[z])) e
 slot:=λb o e _ hb _=>by
  obtain⟨_,o2,ho2,hd2⟩:=hl.mem hb
  rw[e] at ho2;cases ho2
  exact up b o e hd2
 free:=λb o e n _=>n
 there:=λb o e hx=>by
  by_cases hb:b∈frs l
  ·obtain⟨_,o2,ho2,hd2⟩:=hl.mem hb
   obtain⟨sl,q⟩:=up b o2 ho2 hd2
   exact⟨_,q⟩
  ·exact⟨o,keep b o hb (λz=>hx (by simp[z])) (λz=>hx (by simp[z])) e⟩
 tups:=λ_ _ q=>q
 frzs:=λ_ _ _ q=>q
 tbls:=λ_ ps q=>⟨#[],by simpa using q⟩
theorem HOk.traced (hok:HOk P w H h)(hfn:∀b∈frs l,H b=none)(fa:H a=none)(fT:H T=none)(keep:∀b o,b∉frs l->b≠a->b≠T->h.get? b=some o->h'.get? b=some o):HOk P w H h':=λb o e=>by
 refine(hok b o e).stay (λc u hc q=>?_) (λ_ q=>q) λ_ _ q=>q
 have hn:H c≠none:=by
  rcases hc with z |z
  ·rw[z,e];exact λy=>nomatch y
  ·rw[z];exact λy=>nomatch y
 exact keep c u (λz=>hn (hfn c z)) (λz=>hn (z▸fa)) (λz=>hn (z▸fT)) q
theorem Fl.after (x:Fl h0 h H a T cls)(hl:h.FunFrames base l)(hfn:∀b∈frs l,H b=none)(hok:HOk P w H h)(th:∀b o,h0.get? b=some o->∃o',h.get? b=some o')
  (st:(Dn h (frs l) a T).StaysIn h')(tr:h'.TracedW (Dn h (frs l) a T) a cls a0)(up:h.UpToSlots h'):∃T',Fl h0 h' H a T' cls/\HOk P w H h'/\Un (frs l) [a,T] H H h h':=by
 obtain⟨oe,vs,T',oT,ts,ha,⟨hc,h0'⟩,hd,h1,hnT,hne,hT,hdT,h3⟩:=tr
 have key:T'=T∨h.get? T'=none:=by
  cases q:h.get? T' with
  |none=>exact .inr rfl
  |some o=>
   by_cases hf:T'∈frs l
   ·obtain⟨_,o2,ho2,hd2⟩:=hl.mem hf
    obtain⟨sl,e2⟩:=up T' o2 ho2 hd2
    rw[hT] at e2;cases e2
    exact absurd hdT (hd2 ts)
   ·by_cases hz:T'=T
    ·exact .inl hz
    ·rw[ZR q hf hne hz] at hnT;cases hnT
 have keep:∀b o,b∉frs l->b≠a->b≠T->h.get? b=some o->h'.get? b=some o:=λb o n1 n2 n3 e=>st b o (ZR e n1 n2 n3)
 refine⟨T',⟨x.na,?_,x.fa,?_,hne,oe,vs,oT,ts,a0,ha,hc,h0',hd,h1,hT,hdT,h3⟩,hok.traced hfn x.fa x.fT keep,Un.traced hl keep up⟩
 ·rcases key with e |e
  ·rw[e];exact x.nT
  ·cases q:h0.get? T' with
   |none=>rfl
   |some o=>obtain⟨o',e'⟩:=th _ _ q;rw[e] at e';cases e'
 ·rcases key with e |e
  ·rw[e];exact x.fT
  ·exact hok.un0 e
end
section
variable {fs fs2 ex ex2:List Addr}{H0 H H':Hp}{h0 h h':Heap}
theorem Un.past (u:Un fs ex H0 H h0 h)(v:Un fs2 ex2 H H' h h')(n:∀b,b∈ex2->h0.get? b=none)(f:∀b,b∈fs2->b∈fs∨h0.get? b=none):Un fs ex H0 H' h0 h' where
 keep:=λb o e m hb hx=>v.keep b o (u.keep b o e m hb hx) (u.free b o e m hx) (λz=>(f b z).elim hb λy=>by rw[e] at y;cases y) λz=>by rw[n b z] at e;cases e
 slot:=λb o e m hb hx=>by
  obtain⟨sl,q⟩:=u.slot b o e m hb hx
  obtain⟨sl2,q2⟩:=v.any q (u.free b o e m hx) (λz=>by rw[n b z] at e;cases e)
  exact⟨sl2,q2⟩
 free:=λb o e m hx=>by
  obtain⟨o',q⟩:=u.there b o e hx
  exact v.free b o' q (u.free b o e m hx) (λz=>by rw[n b z] at e;cases e)
 there:=λb o e hx=>by
  obtain⟨o',q⟩:=u.there b o e hx
  exact v.there b o' q (λz=>by rw[n b z] at e;cases e)
 tups:=λb xs q=>v.tups b xs (u.tups b xs q)
 frzs:=λb o x q=>v.frzs b o x (u.frzs b o x q)
 tbls:=λb ps q=>by
  obtain⟨m1,e1⟩:=u.tbls b ps q
  obtain⟨m2,e2⟩:=v.tbls b _ e1
  exact⟨m1++m2,by rw[e2,Array.append_assoc]⟩
end
theorem Inv.past {X:Cx}{pins:List (Addr×Obj)}{σ:St}{H H':Hp}{s:Shared}{h':Heap}{ch:List Addr}(I:Inv X pins σ H s)(u:Un (frs X.stack) ch H H' s.heap h')(hok:HOk X.prog X.w H' h')
  (hch:∀b∈ch,X.s₀.heap.get? b=none/\b≠X.env.locals/\(∀x c,X.env.cells.lookup x=some c->c≠b)/\∀p∈X.pn++pins,p.1≠b):Inv X pins σ H' {s with heap:=h'}:=by
 have nL:X.s₀.heap.get? X.env.locals=none:=Heap.get?_none_of_le I.ok.above
 obtain⟨m,⟨o,es,ep,ho,hd,hr⟩,hl⟩:=id I.loc
 have lch:X.env.locals∉ch:=λz=>(hch _ z).2.1 rfl
 obtain⟨sl,hL⟩:=u.any ho I.free lch
 have cl:∀x c v,X.env.cells.lookup x=some c->s.heap.IsCell c v->h'.IsCell c v:=λx c v e ⟨oc,e1,e2⟩=>by
  obtain⟨sl,q⟩:=u.any e1 (I.freeC x c e) λz=>(hch c z).2.2.1 x c e rfl
  exact⟨_,q,e2⟩
 refine⟨I.ok,I.os,I.bare,I.base.past u (λb hb=>(hch b hb).1) λb hb=>?_,⟨m,⟨_,es,ep,hL,hd,hr⟩,λi x v e1 e2 e3=>?_⟩,λx c e=>?_,u.free _ o ho I.free lch,λx c e=>?_,λp hp=>?_,hok,I.len⟩
 ·rcases List.mem_cons.mp (I.stkSub b hb) with z |z
  ·exact .inr (z▸nL)
  ·exact .inl z
 ·obtain⟨u',r,q⟩:=hl i x v e1 e2 e3
  refine⟨u',r,?_⟩
  rcases q with q | ⟨k,c,e,z⟩
  ·exact .inl q
  ·exact .inr ⟨k,c,e,cl x c _ e z⟩
 ·obtain⟨v,z⟩:=I.cell x c e
  exact⟨v,cl x c v e z⟩
 ·obtain⟨v,oc,e1,_⟩:=I.cell x c e
  exact u.free c oc e1 (I.freeC x c e) λz=>(hch c z).2.2.1 x c e rfl
 ·obtain⟨e,n,ne,nf,d⟩:=I.pin p hp
  have nch:p.1∉ch:=λz=>(hch p.1 z).2.2.2 p hp rfl
  exact⟨u.keep p.1 p.2 e n (λz=>(List.mem_cons.mp (I.stkSub _ z)).elim ne nf) nch,u.free p.1 p.2 e n nch,ne,nf,d⟩
noncomputable def CXE (P:Program)(w:World):CXT:=λouter H s E e s'=>∃ a T C H',e= .ref a/\Fl s.heap s'.heap H' a T (.ref C)/\s'.os=s.os/\AllBare s'.gens/\Un (frs outer) [] H H' s.heap s'.heap/\HOk P w H' s'.heap/\E (.ref C) none H'
section
variable {P:Program}{w:World}{K:PySem.W.Frag}{mg:Str->Option Value}{base:Heap}{N:List Str}{qual:Str}{scope:Scope}{f:Addr}{cd:Value}{A:Around}{outer:List Env}{s0:Shared}{H0:Hp}{E:XK}
theorem HZ:QF (CXE P w) (KS (CXE P w) P w K mg base N qual scope f cd A outer s0 H0 E) E:=by
 intro pins σ H s e s' I ⟨a,T,C,H',he,x,os,bare,un,hok,q⟩
 subst he
 have I2:=I.call' os un hok bare (λb z=>nomatch z)
 have th:∀b o,s0.heap.get? b=some o->∃o',s.heap.get? b=some o':=λb o e=>I.base.there b o e (λz=>nomatch z)
 have nn:∀b,s.heap.get? b=none->s0.heap.get? b=none:=λb n=>by
  cases q:s0.heap.get? b with
  |none=>rfl
  |some o=>obtain⟨o',e⟩:=th b o q;rw[n] at e;cases e
 have x0:Fl s0.heap s'.heap H' a T (.ref C):=⟨nn _ x.na,nn _ x.nT,x.fa,x.fT,x.ne,x.obj⟩
 obtain⟨a0,fl⟩:=x0.fly I2.stack
 refine wpAny_leaves_onW I.ok.frames rfl fl λh' fl' up=>?_
 obtain⟨T',y1,y2,y3⟩:=x0.after I2.stack I2.stkFree hok (λb o e=>I2.base.there b o e (λz=>nomatch z)) fl'.1 fl'.2.2.2 up
 refine⟨a,T',C,H',rfl,y1,I2.os,bare,I2.base.past y3 (λb hb=>?_) λb hb=>?_,y2,q⟩
 ·rcases List.mem_cons.mp hb with z |z
  ·rw[z];exact x0.na
  ·rw[List.mem_singleton.mp z];exact x0.nT
 ·rcases List.mem_cons.mp (I2.stkSub b hb) with z |z
  ·exact .inr (z▸Heap.get?_none_of_le I.ok.above)
  ·exact .inl z
noncomputable def BF (X:Cx)(E:XK):Prop:=∀ (pins:List (Addr×Obj)) (σ:St) (H:Hp) (s:Shared) (C e:Addr) (vs:List Value) (h':Heap),Inv X pins σ H s->Heap.MadeExcOf s.heap h' e (.ref C) vs->E (.ref C) none H->X.xe (.ref e) {s with heap:=h'}
theorem FH:BF (KS (CXE P w) P w K mg base N qual scope f cd A outer s0 H0 E) E:=by
 intro pins σ H s C e vs h' I hx q
 have nn:∀b,s.heap.get? b=none->s0.heap.get? b=none:=λb n=>by
  cases q:s0.heap.get? b with
  |none=>rfl
  |some o=>obtain⟨o',e⟩:=I.base.there b o q (λz=>nomatch z);rw[n] at e;cases e
 refine wpAny_leaves_madeW (base:=Dn s.heap (frs (KS (CXE P w) P w K mg base N qual scope f cd A outer s0 H0 E).stack) e e) (h:=s.heap) I.ok.frames rfl (λb o z=>(Vf z).1) (VL I.stack λb hb=>Zd (.inl hb)) hx λh2 t fl _ _ up=>?_
 obtain⟨st,_,_,oe,us,T,oT,ts,ha,⟨hc,h0'⟩,hd,h1,hnT,hne,hT,hdT,h3⟩:=fl
 have up2:s.heap.UpToSlots h2:=λb o z n=>up b o (hx.keeps b o z) n
 have hT0:s.heap.get? T=none:=by
  cases q:s.heap.get? T with
  |none=>rfl
  |some o=>
   by_cases hf:T∈frs (KS (CXE P w) P w K mg base N qual scope f cd A outer s0 H0 E).stack
   ·obtain⟨_,o2,ho2,hd2⟩:=I.stack.mem hf
    obtain⟨sl,e2⟩:=up2 T o2 ho2 hd2
    rw[hT] at e2;cases e2
    exact absurd hdT (hd2 ts)
   ·rw[ZR q hf hne hne] at hnT;cases hnT
 have keep:∀b o,b∉frs (KS (CXE P w) P w K mg base N qual scope f cd A outer s0 H0 E).stack->b≠e->b≠T->s.heap.get? b=some o->h2.get? b=some o:=λb o n1 n2 _ z=>st b o (ZR z n1 n2 n2)
 have fe:=I.hok.un0 hx.new
 have fT:=I.hok.un0 hT0
 refine⟨e,T,C,H,rfl,⟨nn _ hx.new,nn _ hT0,fe,fT,hne,oe,us,oT,ts,_,ha,hc,h0',hd,h1,hT,hdT,h3⟩,I.os,I.bare,I.base.past (Un.traced I.stack keep up2) (λb hb=>?_) λb hb=>?_,I.hok.traced I.stkFree fe fT keep,q⟩
 ·rcases List.mem_cons.mp hb with z |z
  ·rw[z];exact nn _ hx.new
  ·rw[List.mem_singleton.mp z];exact nn _ hT0
 ·rcases List.mem_cons.mp (I.stkSub b hb) with z |z
  ·exact .inr (z▸Heap.get?_none_of_le I.ok.above)
  ·exact .inl z
end
structure FnX (P:Program)(w:World)(K:PySem.W.Frag)(mg:Str->Option Value)(base:Heap)(k:Nat)(x:Str)(ps:List Str)(sp:Sp):Prop where
 ex:∃f fd,FnOk P w K mg base (CXE P w) k f fd ps sp/\UE K fd ps []/\PySem.W.keepIn K (.ref f)=true/\mg x=some (.ref f)
section
variable {X:Cx}{k j:Nat}{x:Str}{ps:List Str}{sp:Sp}{e:Expr}{es:List Expr}{t:TA}{p pos:Pos}{E:XK}
theorem Vb (G:FnX X.prog X.w X.K X.mg X.base k x ps sp)(hr:Room j X.A)(hj:k<=j)(hx:QF (CXE X.prog X.w) X E)(ha:PA X (e::es) t)(hg:Gl X x:=by rfl)(hdb:(x==("__debug__":Str))=false:=by decide)
  (he:starEach (e::es) X.env=(false,eval e X.env)::starEach es X.env:=by rfl)(hpl:(backTo pos (starEach es X.env)).any (·.1)=false:=by rfl):
  PE X (.Call (.Name x p) (e::es) [] pos) (Um sp [] E t):=by
 obtain⟨f,fd,F,b,kp,m⟩:=G.ex
 exact Fs F (hr.mono hj) hg m kp b .nil hx ha hdb he hpl
end
theorem DE {P:Program}{w:World}{K:PySem.W.Frag}{mg:Str->Option Value}{base:Heap}{x:Str}{st:Stmt}{N ps:List Str}{k:Nat}{sp:Sp}(D:Def K mg x st ps)(S:FnScope N ps (Xi st))(len:∀vs H Q E,sp vs H Q E->vs.length=ps.length)
  (hbody:∀(f:Addr) (cdv:Value) (A:Around) (outer:List Env) (s:Shared) (H:Hp) (vs:List V) (Q:VK) (E:XK),Room k (A.deeper (envOfC x (Xi st) s.heap.objs.size f cdv))->sp vs H Q E->
   ∃t,PSs (KS (CXE P w) P w K mg base N x (Xi st) f cdv A outer s H E) (Yi st) t/\t {nx:=λ_ H'=>Q .non H',rt:=Q} (JG N vs) H):FnX P w K mg base (k+1) x ps sp:=by
 obtain⟨f,fd,F,b,m⟩:=D
 obtain⟨oc,od,kV,doc,pm,an,cdv,ct,osl,rfl,lk,hcd⟩:=F.ex
 exact⟨f,_,Hg lk hcd S len λA outer s H vs Q E hr hsp=>hbody f cdv A outer s H vs Q E hr hsp,b,F.kp,m⟩
theorem Fx {K:PySem.W.Frag}{h:Heap}{C:Addr}{bmB:List Value}{newId:String}(X:K.In h)(q:PySem.W.excIn K C bmB newId=true):
  ∃bm N nm q bs hdct sn sub ab col dd k0 k1 k2 k3 k5 mN,h.get? C=some (excClassObj nm q C N bs bm hdct sn sub ab col dd k0 k1 k2 k3 k5 newId)/\h.Ns N mN/\mN "__init__" =none/\OwnTail h bmB bm:=by
 unfold PySem.W.excIn at q
 split at q
 ·rename_i dd cd sl ho
  split at q
  ·rename_i C' bm k0 k1 k2 k3 n k5 hm hs
   simp only[Bool.and_eq_true,beq_iff_eq,Bool.not_eq_true'] at q
   obtain⟨⟨⟨⟨⟨q1,q2⟩,q3⟩,q4⟩,q5⟩,q6⟩:=q
   subst q1 q2
   obtain⟨nm,bs,mro,ns,qn,hd,sn,sub,ab,col,del⟩:=cd
   have e1:mro=_:=hm
   have e2:del=false:=q3
   subst e1 e2
   obtain⟨l⟩:=sl
   have e3:l=_:=hs
   subst e3
   exact⟨bm,ns,nm,qn,bs,hd,sn,sub,ab,col,dd,k0,k1,k2,k3,k5,_,X _ _ ho, .of_isNs (PySem.W.isNs_of_in X q5),PySem.W.nsMap_none_of_in X q5 q6,PySem.W.tail_of_in X q4⟩
  ·cases q
 ·cases q
abbrev vEr:List Value:=[.type "ValueError", .type "Exception", .type "BaseException", .type "object"]
noncomputable def BE (C:Addr)(E:XK)(t:TA):TS:=λ_ σ H=>t σ H λvs H1=>vs.length<=9/\E (.ref C) none H1
section
variable {X:Cx}{E:XK}{C:Addr}{x:Str}{e:Expr}{es:List Expr}{t:TA}{np cpos pos:Pos}
theorem Vi (hR:BF X E)(hc:X.calm=true)(hq:PySem.W.excIn X.K C vEr "ValueError.__new__" =true)(hg:Gl X x)(hm:X.mg x=some (.ref C))(ha:PA X (e::es) t)(hdb:(x==("__debug__":Str))=false:=by decide)
  (he:starEach (e::es) X.env=(false,eval e X.env)::starEach es X.env:=by rfl)(hpl:(backTo cpos (starEach es X.env)).any (·.1)=false:=by rfl):
  PS X (.Raise (some (.Call (.Name x np) (e::es) [] cpos)) none pos) (BE C E t):=by
 intro pins s σ H D I h
 obtain⟨bm,N,nm,q,bs,hdct,sn,sub,ab,col,dd,k0,k1,k2,k3,k5,mN,hC,hN,hni,T⟩:=Fx I.ok.mod.kin hq
 refine wpAny_Raise_call_subU (C:=C) (nm:=nm) (q:=q) (N:=N) (bs:=bs) (bm:=bm) (hdct:=hdct) (sn:=sn) (sub:=sub) (ab:=ab) (col:=col) (dd:=dd) (k0:=k0) (k1:=k1) (k2:=k2) (k3:=k3) (k5:=k5) (bmB:=vEr)
  PySem.F.excBase_ValueError rfl PySem.F.excBase_ValueError (mN:=mN) (T.hasType rfl) (I.ok.hd hc) (by rw[he];show(false || (backTo cpos (starEach es X.env)).any (·.1))=false;rw[hpl];rfl) hni (VH I hg hm ⟨rfl,?_⟩ hdb)
 have h2:=ha cpos pins s σ H _ I h
 rw[he] at h2⊢
 refine Calls.evalArgs_plain (wpAny_mono h2 (λus s2 ⟨vs,H1,I1,r,hl,hE⟩=>⟨rfl,?_,I1.bk _ _ hC,hN.keeps I1.bk,T.keeps I1.bk,λh' a hx=>hR pins σ H1 s2 C a us h' I1 hx hE⟩) λ_ _ y=>y)
 have:us.length<=9:=by rw[←r.length];exact hl
 exact Nat.le_trans this (by decide)
end
noncomputable abbrev TJ:=St->Hp->(Hp->Prop)->Prop
noncomputable def PJ (X:Cx)(es:List Expr)(n:Nat)(t:TJ):Prop:=
 ∀(pins:List (Addr×Obj)) (s:Shared) (σ:St) (H:Hp) (Q:Hp->Prop) (out:Str),Inv X pins σ H s->out.length<=n->t σ H Q->
  wpAny (model X.prog X.w) X.A (joinParts out (evalEach es X.env)) (λu s'=>∃ x tk H',u=Value.str x tk/\Inv X pins σ H' s'/\Q H') X.xe s
noncomputable def tJn:TJ:=λ_ H Q=>Q H
noncomputable def tJs (te:TE)(t:TJ):TJ:=λσ H Q=>te σ H λv H1=>∃ x:Str,v= .str x/\x.length<=1000/\t σ H1 Q
noncomputable def tF (t:TJ):TE:=λσ H Q=>t σ H λH1=>∀ x,Q (.str x) H1
section
variable {X:Cx}{e:Expr}{es:List Expr}{te:TE}{t:TJ}{n:Nat}{pos p:Pos}
theorem Bb (h:n<=sizeLine:=by exact Nat.le_of_ble_eq_true rfl):PJ X [] n tJn:=λpins s σ H Q out I hl q=>
 joinParts_nil ⟨_,_,H,rfl,I.tok _,q⟩ (Nat.le_trans hl h)
theorem Bz (he:PE X e te)(hr:PJ X es (n+1000) t)(hz:n+1000<=sizeLine:=by exact Nat.le_of_ble_eq_true rfl):PJ X (e::es) n (tJs te t):=λpins s σ H Q out I hl q=>by
 refine joinParts_cons (wpAny_mono (he pins s σ H _ I q) (λu s1 r9=>?_) λ_ _ z=>z)
 obtain⟨v,H1,I1,r,x,hv,hx,q1⟩:=r9
 subst hv
 obtain⟨tk,hu⟩:∃tk,u=Value.str x tk:=r
 subst hu
 have hle:(out++x).length<=n+1000:=by rw[strLen_append];omega
 exact⟨Nat.le_trans hle hz,hr pins s1 σ H1 Q _ I1 hle q1⟩
theorem IP {e₁:Expr}(h:PJ X (e::e₁::es) 0 t):PE X (.JoinedStr (e::e₁::es) pos) (tF t):=λpins s σ H Q I q=>
 JoinedStr_many (wpAny_mono (h pins s σ H _ Str.empty I (Nat.le_refl _) q) (λu s' r9=>by obtain⟨x,tk,H',hu,I',q'⟩:=r9;exact⟨.str x,H',I',⟨tk,hu⟩,q' x⟩) λ_ _ z=>z)
end
noncomputable abbrev Cx.alt (X:Cx)(pn:List (Addr×Obj))(xe:Value->Shared->Prop):Cx:={X with pn:=pn,xe:=xe}
noncomputable abbrev Cx.held (X:Cx)(a:Addr)(pn:List (Addr×Obj)):Cx:={X with A:=X.A.mark (some (.ref a)),calm:=false,pn:=pn,xe:=λ_ _=>False}
noncomputable def blank (n:Nat):St:=List.replicate n none
noncomputable def HN (K:PySem.W.Frag)(n:Nat)(cc:Value)(i:Nat)(tb:XK->TS)(ts:Addr->Addr->TS):TS:=λD σ H=>
 tb (λc _ H'=>PySem.W.exmOne K c cc=some true/\∀a C,c= .ref C->H' a=none->ts a C {nx:=λ_=>D.nx (blank n),rt:=D.rt,bk:=λ_=>D.bk (blank n),ct:=λ_=>D.ct (blank n)} ((blank n).set i (some (.ref a))) H') D σ H
theorem Cx.Ok.alt {X:Cx}(ok:X.Ok)(pn:List (Addr×Obj))(xe:Value->Shared->Prop):(X.alt pn xe).Ok:=
 ⟨ok.mod,ok.kind,ok.glob,ok.blt,ok.above,ok.inj,ok.has,ok.cab,ok.hd,ok.frames,ok.stk,ok.exf,ok.bs,ok.bsz,ok.noex,ok.exfs,ok.funs,ok.frf⟩
theorem Cx.Ok.held {X:Cx}(ok:X.Ok)(a:Addr)(pn:List (Addr×Obj)):(X.held a pn).Ok:=
 ⟨ok.mod,ok.kind,ok.glob,ok.blt,ok.above,ok.inj,ok.has,ok.cab,(λz=>nomatch z),ok.frames,ok.stk,ok.exf,ok.bs,ok.bsz,ok.noex,ok.exfs,ok.funs,ok.frf⟩
section
variable {X:Cx}{pins:List (Addr×Obj)}{σ:St}{H:Hp}{s:Shared}{h':Heap}
theorem Gc {n i:Nat}{v:V}(h:(blank n)[i]?=some (some v)):False:=by
 unfold blank at h
 rw[List.getElem?_replicate] at h
 split at h<;> cases h
theorem Uf {n:Nat}:(blank n).length=n:=by simp[blank]
theorem Inv.blank (I:Inv X pins σ H s):Inv X pins (blank X.N.length) H s:=I.weak (by rw[Uf,I.len]) λi v h=>(Gc h).elim
theorem Inv.forget {m':Str->Option Value}{t':Nat}(I:Inv X pins σ H s)(hn:h'.Ns X.env.locals m')(sb:Heap.SameBut X.env.locals s.heap h'):Inv X pins (L2.blank X.N.length) H {s with heap:=h',toks:=t'}:=by
 have v:Un [] [X.env.locals] H H s.heap h':=⟨λb o e n _ hx=>(sb.2 b λz=>hx (by simp[z])).trans e,(λb o e n hb _=>nomatch hb),λb o e n _=>n,λb o e hx=>⟨o,(sb.2 b λz=>hx (by simp[z])).trans e⟩,λ_ _ q=>q,λ_ _ _ q=>q,λ_ ps q=>⟨#[],by simpa using q⟩⟩
 refine⟨I.ok,I.os,I.bare,I.base.past v (λb hb=>?_) (λb hb=>nomatch hb),⟨m',hn,λi x v _ e2=>(Gc e2).elim⟩,λx c e=>?_,I.free,I.freeC,λp hp=>?_,λb o e=>?_,Uf⟩
 ·rw[List.mem_singleton.mp hb];exact Heap.get?_none_of_le I.ok.above
 ·obtain⟨v,o,e1,e2⟩:=I.cell x c e
  exact⟨v,o,(sb.2 c (I.cne x c e)).trans e1,e2⟩
 ·obtain⟨e,n,ne,nf,d⟩:=I.pin p hp
  exact⟨(sb.2 p.1 ne).trans e,n,ne,nf,d⟩
 ·refine(I.hok b o e).stay (λc u hc q=>(sb.2 c λz=>?_).trans q) (λ_ q=>q) λ_ _ q=>q
  have hf:=I.free
  rw[←z] at hf
  rcases hc with y |y
  ·rw[y,e] at hf;cases hf
  ·rw[y] at hf;cases hf
end
section
variable {X:Cx}{body suite:List Stmt}{b₀:Stmt}{cn n:Str}{Ch:Addr}{i:Nat}{tb:XK->TS}{ts:Addr->Addr->TS}{np hpos pos:Pos}
theorem Be (hst:X.stack=X.env::X.outer)(hex:X.ex=[])(hfr:X.env.frame=some X.env.locals)(hg:Gl X cn)(hm:X.mg cn=some (.ref Ch))(hN:X.N.Nodup)(hi:X.N[i]?=some n)(hlo:X.env.kindOf n=some .local)(hlo2:X.env.scope.names.lookup n=some .local)
  (hb:∀pn xe E,QF (CXE X.prog X.w) (X.alt pn xe) E->PSs (X.alt pn xe) body (tb E))
  (hs:∀pn a o C,(a,o)∈pn->o.cls= .ref C->PSs (X.held a pn) (b₀::suite) (ts a C))
  (hdb:(cn==("__debug__":Str))=false:=by decide):
  PS X (.Try body [.ExceptHandler (some (.Name cn np)) (some n) (b₀::suite) hpos] [] [] pos) (HN X.K X.N.length (.ref Ch) i tb ts):=by
 intro pins s σ H D I h
 refine wpAny_Try_except ?_
 have I0:∀xe,Inv (X.alt (X.pn++pins) xe) [] σ H s:=λxe=>⟨I.ok.alt _ _,I.os,I.bare,I.base,I.loc,I.cell,I.free,I.freeC,λp hp=>I.pin p (by simpa using hp),I.hok,I.len⟩
 have back:∀{xe pins1 σ' H' s'},Inv (X.alt (X.pn++pins) xe) pins1 σ' H' s'->Inv X pins σ' H' s':=fun {xe pins1 σ' H' s'} J=>⟨I.ok,J.os,J.bare,J.base,J.loc,J.cell,J.free,J.freeC,λp hp=>J.pin p (List.mem_append_left _ hp),J.hok,J.len⟩
 refine wpAny_mono (hb (X.pn++pins) _ _ ?pp [] s σ H D (I0 _) h) (λf s1 hq=>?fin) λe s1 hq=>hq
 case fin=>
  cases f with
  |next=>obtain⟨σ',H',J,q⟩:=hq;exact wpAny_execs_nil ⟨σ',H',back J,q⟩
  |brk=>obtain⟨σ',H',J,q⟩:=hq;exact⟨σ',H',back J,q⟩
  |cont=>obtain⟨σ',H',J,q⟩:=hq;exact⟨σ',H',back J,q⟩
  |ret u=>obtain⟨v,σ',H',J,r,q⟩:=hq;exact⟨v,σ',H',back J,r,q⟩
 case pp=>
  intro pins1 σ1 H1 s1 e s' I1 ⟨a,T,C,H',he,x,os,bare,un,hok,hexm,hts⟩
  subst he
  have I2:=I1.call' os un hok bare (λb z=>nomatch z)
  have J:Inv X pins (blank X.N.length) H' s':=(back I2).blank
  have q1:∀b,s1.heap.get? b=none->X.s₀.heap.get? b=none/\b≠X.env.locals/\(∀y c,X.env.cells.lookup y=some c->c≠b)/\∀p∈X.pn++pins,p.1≠b:=λb nb=>by
   refine⟨?_,λz=>?_,λy c hy z=>?_,λp hp z=>?_⟩
   ·cases q:X.s₀.heap.get? b with
    |none=>rfl
    |some o=>obtain⟨o',e⟩:=I1.base.there b o q (by show b∉X.ex;rw[hex];simp);rw[nb] at e;cases e
   ·obtain⟨m,⟨o,es,ep,ho,_⟩,_⟩:=I1.loc
    have ho':s1.heap.get? X.env.locals=some o:=ho
    rw[←z,nb] at ho';cases ho'
   ·obtain⟨v,o,ho,_⟩:=I1.cell y c hy
    rw[z,nb] at ho;cases ho
   ·obtain⟨e,_⟩:=I1.pin p (List.mem_append_left _ hp)
    rw[z,nb] at e;cases e
  have hl:s'.heap.FunFrames X.base (X.env::X.outer):=hst▸J.stack
  have hfn:∀b∈frs (X.env::X.outer),H' b=none:=hst▸J.stkFree
  have hA:X.A.frames=some (X.env::X.outer):=hst▸I.ok.frames
  obtain⟨a0,fl⟩:=x.fly hl
  refine wpAny_looks_onW hA hfr fl λh2 hd2 up2=>?_
  refine wpAny_landsW hd2 λh3 fl3 up3=>?_
  obtain⟨T3,x3,hok3,un3⟩:=x.after hl hfn hok (λb o e=>un.there b o e (λz=>nomatch z)) fl3.1 fl3.2.2.2 (up2.trans up3)
  have ch:∀{U:Addr},s1.heap.get? U=none->∀b∈[a,U],X.s₀.heap.get? b=none/\b≠X.env.locals/\(∀y c,X.env.cells.lookup y=some c->c≠b)/\∀p∈X.pn++pins,p.1≠b:=fun {U} nU b hb=>by
   rcases List.mem_cons.mp hb with z |z
   ·rw[z];exact q1 a x.na
   ·rw[List.mem_singleton.mp z];exact q1 U nU
  have J3:Inv X pins (blank X.N.length) H' {s' with heap:=h3}:=J.past (by rw[hst];exact un3) hok3 (ch x.nT)
  have hh:∀{pn:List (Addr×Obj)}{s4:Shared},Inv X pins (blank X.N.length) H' s4->(∀p∈pn,p∈X.pn++pins∨(p.1=a/\s4.heap.get? a=some p.2/\∀v,p.2.data≠ .cell v))->Inv (X.held a pn) [] (blank X.N.length) H' s4:=fun {pn s4} J4 hp4=>by
   refine⟨I.ok.held _ _,J4.os,J4.bare,J4.base,J4.loc,J4.cell,J4.free,J4.freeC,λp hp=>?_,J4.hok,J4.len⟩
   rcases hp4 p (by simpa using hp) with z | ⟨z1,z2,z3⟩
   ·exact J4.pin p z
   ·refine⟨by rw[z1];exact z2,by rw[z1];exact x.fa,by rw[z1];exact(q1 a x.na).2.1,?_,z3⟩
    rw[z1]
    intro y
    obtain⟨_,o2,ho2,_⟩:=I.ok.funs.mem y
    rw[(q1 a x.na).1] at ho2
    cases ho2
  have hl3:h3.FunFrames X.base (X.env::X.outer):=hst▸J3.stack
  obtain⟨oe,vs,oT,tts,a1,ha3,hc3,_⟩:=id x3.obj
  have J3h:=hh (pn:=X.pn++pins) J3 λp hp=>.inl hp
  refine wpAny_handleBy_cons (codeAny_handlers_test (VH J3h hg hm ?_ hdb)) (by intro q;cases q)
  have LT:PySem.W.Looks (model X.prog X.w) h3 (typeOf (.ref a)) (.ref C):=hc3▸(PySem.W.Looks.ld ha3).andThen .now
  refine PySem.W.exm_one J3.kIn LT hexm _ _ _ _ (λ_ _ e=>e) ?_
  refine codeAny_handlers_suite_as ?_
  obtain⟨a2,fl4⟩:=x3.fly hl3
  refine lands_againW fl4 λh5 fl5 up5=>?_
  obtain⟨T5,x5,hok5,un5⟩:=x3.after hl3 hfn hok3 (λb o e=>by
   obtain⟨o',e'⟩:=un.there b o e (λz=>nomatch z)
   by_cases z:b∈[a,T]
   ·rcases List.mem_cons.mp z with z |z
    ·rw[z,x.na] at e;cases e
    ·rw[List.mem_singleton.mp z,x.nT] at e;cases e
   ·exact un3.there b o' e' z) fl5.1 fl5.2.2.2 up5
  have J5:Inv X pins (blank X.N.length) H' {s' with heap:=h5}:=J3.past (by rw[hst];exact un5) hok5 (ch x3.nT)
  obtain⟨oe5,vs5,oT5,ts5,a5,ha5,hc5,_,hd5,_⟩:=id x5.obj
  have J5h:=hh (pn:=(a,oe5)::(X.pn++pins)) J5 λp hp=>by
   rcases List.mem_cons.mp hp with z |z
   ·rw[z];exact .inr ⟨rfl,ha5,λv q=>by rw[hd5] at q;cases q⟩
   ·exact .inl z
  refine Qp (X:=X.held a ((a,oe5)::(X.pn++pins))) (v:=.ref a) J5h hN hi (.inl hlo2) rfl (λs6 J6=>?_) (.inr hlo2)
  refine wpAny_mono (hs _ a oe5 C List.mem_cons_self hc5 [] s6 _ H' _ J6 (hts a C rfl x.fa)) (λf s7 hq=>?_) λ_ _ z=>z.elim
  have fin:∀{σ7 H7}{Q:Unit->Shared->Prop},Inv (X.held a ((a,oe5)::(X.pn++pins))) [] σ7 H7 s7->(∀s8,Inv X pins (blank X.N.length) H7 s8->Q () s8)->wpAny (model X.prog X.w) X.A (do bindName X.env n .none;unbindBehindTheSuite X.env n hpos) Q X.xe s7:=fun {σ7 H7 Q} J7 q=>by
   obtain⟨m,hn,_⟩:=id J7.loc
   refine wpAny_nameGoes hlo hn (by rw[I.ok.kind];rfl) λh8 m8 hn8 sb8=>q _ ?_
   have J8:=J7.forget (t':=s7.toks+1) hn8 sb8
   exact⟨I.ok,J8.os,J8.bare,J8.base,J8.loc,J8.cell,J8.free,J8.freeC,λp hp=>J8.pin p (by simpa using .inr (by simpa using hp)),J8.hok,J8.len⟩
  cases f with
  |next=>obtain⟨σ7,H7,J7,q⟩:=hq;exact fin J7 λs8 J8=>⟨_,H7,J8,q⟩
  |brk=>obtain⟨σ7,H7,J7,q⟩:=hq;exact fin J7 λs8 J8=>⟨_,H7,J8,q⟩
  |cont=>obtain⟨σ7,H7,J7,q⟩:=hq;exact fin J7 λs8 J8=>⟨_,H7,J8,q⟩
  |ret u=>obtain⟨v,σ7,H7,J7,r,q⟩:=hq;exact fin J7 λs8 J8=>⟨v,_,H7,J8,r,q⟩
end
section
variable {K:PySem.W.Frag}{Er:Exc->Hp->Prop}{S:SC}{OO OO' OO2:List (List Xr)}{σ:St}{α β γ ρ ι:Type}{α1 α2 α3 α4 α5 α6:Type}{mg:Str->Option Value}{E:XK}
noncomputable def ErE (mg:Str->Option Value)(E:XK):Exc->Hp->Prop:=λx H=>∀ C,mg x.cls=some (.ref C)->E (.ref C) none H
structure PX {β:Type}(Er:Exc->Hp->Prop)(F:β->Hp->Prop)(H:Hp)(m:Rs β):Prop where
 z:PZ Er F H m
noncomputable def DM (mg:Str->Option Value)(r1:Enc α1)(o:OE ρ)(f:α1->Rs ρ)(K:PySem.W.Frag):Sp:=λvs H Q E=>∃ v1 a1,vs=[v1]/\r1 K H v1 a1/\PX (ErE mg E) (FF K o Q) H (f a1)
theorem E7 {o:OE ρ}[FlatO o]{Q:VK}{H:Hp}{m:Rs ρ}(w:W OO H)(P:PZ Er (FO K OO OO o Q) H m):PZ Er (FF K o Q) H m:=by
 cases m with
 |bad=>exact P
 |err x=>exact P
 |ok b=>exact Jj w P
theorem Qc {ta:TE}{r1:Enc α1}{o:OE ρ}[FlatO o]{f:α1->Rs ρ}{ma:Rs α1}(ha:EvB K (ErE mg E) S OO σ ta r1 ma):Ev K (ErE mg E) S OO OO σ (Um (DM mg r1 o f K) [] E (XA ta Zy)) o (ma.bind λa=>f a):=λH Q w s P=>
 ha.run w s FO.tr P λa x H1 s1 w1 q1 r1 P1=>⟨x,a,rfl,r1,⟨E7 w1 P1⟩⟩
theorem Fw {o:OE ρ}[MonoO o]{t:TS}{m:Rs ρ}{Q:VK}{H:Hp}{D:Ends}(n:Nat)(h:Sv (ErE mg E) S (List.replicate n []) σ t (FTd K o) m)(hs:S.p H)(PP:PX (ErE mg E) (FF K o Q) H m)(hD:D.rt=Q):t D σ H:=by
 have P:=PP.z
 refine h H D (Hv n H) (by rw[Cv];exact hs) ?_
 rw[Cv]
 cases m with
 |bad=>exact P
 |err x=>exact P
 |ok b=>
  intro v C OO' H' w mm ho
  rw[hD]
  exact Bw P v C OO' H' w mm ho
noncomputable def FJ (Q:Hp->Prop)(_:Unit)(H:Hp):Prop:=∀ H',Xp H H'->Q H'
theorem FJ.tr {Q:Hp->Prop}:∀(b:Unit) (H H':Hp),Xp H H'->FJ Q b H->FJ Q b H':=λ_ _ _ s h H2 s2=>h H2 (s.trans s2)
noncomputable def EvJ (Er:Exc->Hp->Prop)(S:SC)(OO:List (List Xr))(σ:St)(t:TJ)(m:Rs Unit):Prop:=∀ H Q,W OO H->S.p (hid H OO)->PZ Er (FJ Q) H m->t σ H Q
theorem Fk:EvJ Er S OO σ tJn (.ok ()):=λH Q _ _ P=>P H (Xp.refl _)
theorem Di {x:Str}{t:TJ}{m:Rs Unit}(h:EvJ Er S OO σ t m)(hx:x.length<=1000:=by first |decide |decide+kernel):EvJ Er S OO σ (tJs (tC (.str x)) t) m:=λH Q w s P=>⟨x,rfl,hx,h H Q w s P⟩
noncomputable def EvX (Er:Exc->Hp->Prop)(S:SC)(OO:List (List Xr))(σ:St)(t:TE)(m:Rs Unit):Prop:=∀ H (Q:VK),W OO H->S.p (hid H OO)->PZ Er (FJ λH=>∀ v,Q v H) H m->t σ H Q
theorem E8 {t:TJ}{m:Rs Unit}(h:EvJ Er S OO σ t m):EvX Er S OO σ (tF t) m:=λH Q w s P=>h H _ w s (by
 cases m with
 |bad=>exact P
 |err x=>exact P
 |ok b=>exact λH' s' x=>P H' s' _)
theorem BY {x:Str}:EvX Er S OO σ (tC (.str x)) (.ok ()):=λH Q _ _ P=>P H (Xp.refl _) _
variable {Fd:Ends->β->Hp->Prop}[fd:FdOk Fd]{u:TS}
theorem Vv {te:TE}{m:Rs Unit}{C:Addr}{n:Str}(hm:mg n=some (.ref C))(h:EvX (ErE mg E) S OO σ te m):Sv (ErE mg E) S OO σ (ZQ (BE C E (XA te Zy)) u) Fd (m.bind λ_=>.err ⟨n, .non⟩):=λH D w s P=>
 h H _ w s (by
  cases m with
  |bad=>exact P
  |err x=>exact λH' s'=>P H' (XD.trans s')
  |ok b=>exact λH' s' v=>⟨Nat.le_of_ble_eq_true rfl,P H' (XD.trans s') C hm⟩)
noncomputable def YK (n d:Str):Bool:=n==d || d==("PlaitError":Str)
noncomputable def erA (K:PySem.W.Frag)(C:Addr):Bool:=PySem.W.findIn K (.ref C) "__getattribute__" ==some (some (.builtin "BaseException.__getattribute__"))&&PySem.W.findIn K (.ref C) "__getattr__" ==some none&&PySem.W.findIn K (.ref C) "__class__" ==some (some (.builtin "object.__class__"))&&
 PySem.W.specialIn K (.builtin "object.__class__") "__get__" ==some (some (.builtin "getset_descriptor.__get__"))&&PySem.W.takesIn K (.builtin "object.__class__")==some true&&PySem.W.mroIn K C (.type "object")==some true&&(PySem.W.clsIn K C).isSome&&PySem.W.mroIn K C (.type "BaseException")==some true
noncomputable def Qq (n:Str):Bool:=!(n==("NotADrawing":Str))&&!(n==("NoChain":Str))
noncomputable def Eh (K:PySem.W.Frag)(cs:List (Str×Addr)):Bool:=cs.all λp=>(!(Qq p.1) || PySem.W.excIn K p.2 vEr "ValueError.__new__")&&erA K p.2&&PySem.W.kitOne K (.ref p.2) (.type "ValueError")==some true&&
 cs.all λq=>PySem.W.kitOne K (.ref p.2) (.ref q.2)==some (YK p.1 q.1)&&PySem.W.exmOne K (.ref p.2) (.ref q.2)==some (YK p.1 q.1)
structure Ecs (ns:List Str)(K:PySem.W.Frag)(mg:Str->Option Value):Prop where
 adr:∀n∈ns,∃C,mg n=some (.ref C)/\(Qq n=true->PySem.W.excIn K C vEr "ValueError.__new__" =true)
 att:∀n∈ns,∀C,mg n=some (.ref C)->erA K C=true
 val:∀n∈ns,∀C,mg n=some (.ref C)->PySem.W.kitOne K (.ref C) (.type "ValueError")=some true
 kit:∀n∈ns,∀d∈ns,∀C D,mg n=some (.ref C)->mg d=some (.ref D)->PySem.W.kitOne K (.ref C) (.ref D)=some (YK n d)
 exm:∀n∈ns,∀d∈ns,∀C D,mg n=some (.ref C)->mg d=some (.ref D)->PySem.W.exmOne K (.ref C) (.ref D)=some (YK n d)
theorem E5 {cs:List (Str×Addr)}(h:Eh K cs=true)(hn:∀p∈cs,mg p.1=some (.ref p.2)):Ecs (cs.map (·.1)) K mg:=by
 have key:∀n∈cs.map (·.1),∀C,mg n=some (.ref C)->(n,C)∈cs:=λn hm C hC=>by
  obtain⟨⟨n',C'⟩,hp,rfl⟩:=List.mem_map.mp hm
  have:=hn _ hp
  rw[hC] at this
  cases this
  exact hp
 have hp:∀p∈cs,_:=List.all_eq_true.mp h
 simp only[Bool.and_eq_true,List.all_eq_true,beq_iff_eq,Bool.or_eq_true] at hp
 refine⟨λn hm=>?_,λn hm C hC=>(hp _ (key n hm C hC)).1.1.2,λn hm C hC=>(hp _ (key n hm C hC)).1.2,λn hm d hd C D hC hD=>((hp _ (key n hm C hC)).2 _ (key d hd D hD)).1,λn hm d hd C D hC hD=>((hp _ (key n hm C hC)).2 _ (key d hd D hD)).2⟩
 obtain⟨⟨n',C'⟩,hq,rfl⟩:=List.mem_map.mp hm
 exact⟨C',hn _ hq,λe=>(hp _ hq).1.1.1.resolve_left (by rw[e];exact Bool.false_ne_true)⟩
noncomputable def cau (ns:List Str)(n d:Str):Bool:=decide (n∈ns)&&YK n d
noncomputable def Rs.tryC (m:Rs α)(f:α->Rs β)(g:Exc->Rs β):Rs β:=match m with
 | .bad=>.bad
 | .err x=>g x
 | .ok a=>f a
theorem B2 {c:Prop}[Decidable c]{m:Rs β}{F:β->Hp->Prop}{H:Hp}(P:PZ Er F H (chk c m)):c/\PZ Er F H m:=by
 by_cases hc:c
 ·rw[Xq hc] at P;exact⟨hc,P⟩
 ·unfold chk at P
  rw[if_neg hc] at P
  exact P.elim
section
variable {te:XK->TE}{m:Rs α}{ts:Addr->Addr->TS}{N i:Nat}{Ch:Addr}{o:OE ρ}{g:Exc->Rs ρ}{ns:List Str}{d:Str}
theorem Em {x:Exc}{H:Hp}{D D':Ends}(hD:D'.rt=D.rt)(Y:Ecs ns K mg)(hd:d∈ns)(hm:mg d=some (.ref Ch))(hs:∀x,x.cls∈ns->∀C a,mg x.cls=some (.ref C)->Sv Er S OO ((blank N).set i (some (.ref a))) (ts a C) (FTd K o) (g x))(w:W OO H)(s:S.p (hid H OO))
  (P:PZ Er (FTd K o D) (hid H OO) (chk (cau ns x.cls d=true) (g x))):∀H',Xp H H'->∀C,mg x.cls=some (.ref C)->PySem.W.exmOne K (.ref C) (.ref Ch)=some true/\∀a C',Value.ref C= .ref C'->H' a=none->ts a C' D' ((blank N).set i (some (.ref a))) H':=λH' s' C hC=>by
 obtain⟨hc,P2⟩:=B2 P
 unfold cau at hc
 rw[Bool.and_eq_true,decide_eq_true_eq] at hc
 refine⟨by rw[Y.exm _ hc.1 d hd C Ch hC hm,hc.2],λa C' hC' _=>hs x hc.1 C' a (hC'.symm▸hC) H' D' (w.keep s') (S.mono _ _ (Xj s') s) ?_⟩
 have P3:=PZ.tr (FdOk.tr (Fd:=FTd K o) D) (Xj s') P2
 unfold FTd at P3⊢
 rw[hD]
 exact P3
theorem Du {o1:OE α}[MonoO o1]{f:α->Rs ρ}(Y:Ecs ns K mg)(hd:d∈ns)(hm:mg d=some (.ref Ch))(j k:Nat)(he:∀E,Ev K (ErE mg E) S OO OO' σ (te E) o1 m)(hk:k<OO'.length)
  (hr:∀a v C,Sv Er (S.addO K o1 v a C) (OO'.set k C) (σ.set j (some v)) u (FTd K o) (f a))
  (hs:∀x,x.cls∈ns->∀C a,mg x.cls=some (.ref C)->Sv Er S OO ((blank N).set i (some (.ref a))) (ts a C) (FTd K o) (g x)):
  Sv Er S OO σ (ZQ (HN K N (.ref Ch) i (λE=>ZQ (GV (te E) (QC j)) Q9) ts) u) (FTd K o) (m.tryC f (λx=>chk (cau ns x.cls d=true) (g x))):=λH D w s P=>
 he _ H _ w s (by
  cases m with
  |bad=>exact P
  |err x=>exact Em rfl Y hd hm hs w s P
  |ok a=>
   intro v C H' s' w' m' ho
   obtain⟨w2,h2⟩:=IM w' hk
   exact hr a v C H' D w2 ⟨S.mono _ _ (m'.trans h2) s,MonoO.mono h2 ho⟩ (PZ.tr (FdOk.tr (Fd:=FTd K o) D) (m'.trans h2) P))
end
noncomputable def vOf:V->Value
 | .ref a=>.ref a
 | .ty n=>.type n
 |_=>.none
noncomputable def ID (K:PySem.W.Frag)(c:Value)(a:Addr)(xs:List V)(H:Hp)(Q:VK):Prop:=∃ d b C,c= .ref C/\erA K C=true/\xs=[.ref a,d]/\((∃D,d= .ref D)∨∃n,d= .ty n)/\PySem.W.kitOne K c (vOf d)=some b/\Q (.bl b) H
theorem Qv {a C D:Addr}{b:Bool}(i:Nat)(hσ:σ[i]?=some (some (.ref a)))(hA:erA K C=true)(hk:PySem.W.kitOne K (.ref C) (.ref D)=some b):EvB K Er S OO σ (tCB (ID K (.ref C) a) (XA (VM i) (XA (tC (.ref D)) Zy))) Xz (.ok b):=λH Q w s P=>
 ⟨_,hσ,_,b,C,rfl,hA,rfl, .inl ⟨D,rfl⟩,hk,P _ H (Xp.refl _) rfl⟩
end
end L2
namespace L2
open PySem PySem.Spec PyProof.Rows PySem.W PySem.Builtin PySem.Builtin.ObjectAttr PySem.Builtin.Getset_descriptor
section
variable {prog:Program}{w:World}{A:Around}{E:Value->Shared->Prop}{K:Frag}{x D:Addr}{s:Shared}
theorem DR {M:Model}{h:Heap}(X:K.In h)(cl:findIn K (.ref D) "__class__" =some (some (.builtin "object.__class__")))(sg:specialIn K (.builtin "object.__class__") "__get__" =some (some (.builtin "getset_descriptor.__get__")))(tk:takesIn K (.builtin "object.__class__")=some true):
  Looks M h (Builtin.ObjectAttr.find (.ref x) (.ref D) "__class__") (.bind (.builtin "getset_descriptor.__get__") (.builtin "object.__class__")):=by
 have L3:=looks_takesIn (M:=M) X tk
 exact(looks_findIn (M:=M) X cl).andThen ((looks_specialIn X sg).andThen ((show Looks M h (Builtin.ObjectAttr.dataDescriptor? (some (.builtin "object.__class__")) (some (.builtin "getset_descriptor.__get__"))) (some (.builtin "getset_descriptor.__get__", .builtin "object.__class__")) from L3.andThen .now).andThen (Looks.tag .now)))
theorem Eo {R:Result->Shared->Prop}{tp:Value}(X:K.In s.heap)(L0:Looks (model prog w) s.heap (typeOf (.ref x)) (.ref D))(hm:mroIn K D (.type "object")=some true)
  (h:R (.ok (.ret (.ref D))) s):codeAny (model prog w) A (.call (.builtin "getset_descriptor.__get__") ⟨[.builtin "object.__class__", .ref x,tp],[]⟩) R s:=by
 obtain⟨hh,g,dr,t,os⟩:=s
 have L1:=looks_mroIn (M:=model prog w) X hm
 refine codeAny_call_builtin KF.slot_gs.plain KF.entry_gs (KF.slot_gs.check _ _ _ _ _ _ _ _ KF.type_class (KF.args_gs _ _ _) ?_)
 unfold Builtin.«getset_descriptor.__get__» descrGet
 rw[dga_obj]
 refine wpAny_bind (wpAny_pure ?_)
 unfold descrGetter descrCheckInstance descrNameAndClass isInstance
 simp only[KF.owner_class]
 repeat lk
 refine⟨Code.quiet_builtin _ (by decide+kernel),codeAny_builtin KF.entry_class ?_⟩
 unfold Builtin.«object.__class__» shownTypeOf
 repeat lk
 exact h
theorem Fb {Q:Option Value->Shared->Prop}(X:K.In s.heap)(hx:∃o,s.heap.get? x=some o/\o.cls= .ref D)(hA:erA K D=true)(h:Q (some (.ref D)) {s with toks:=s.toks+1}):wpAny (model prog w) A (getAttr? (.ref x) "__class__") Q E s:=by
 obtain⟨hh,g,d,t,os⟩:=s
 obtain⟨o,ho,hc⟩:=hx
 unfold erA at hA
 simp only[Bool.and_eq_true,beq_iff_eq] at hA
 obtain⟨⟨⟨⟨⟨⟨⟨ga,gh⟩,cl⟩,sg⟩,tk⟩,mo⟩,ci⟩,mb⟩:=hA
 have L0:Looks (model prog w) hh (typeOf (.ref x)) (.ref D):=hc▸(Looks.ld ho).andThen .now
 have L1:=looks_findIn (M:=model prog w) X ga
 have L2:=looks_findIn (M:=model prog w) X gh
 have LB:=looks_mroIn (M:=model prog w) X mb
 have LF:=DR (M:=model prog w) (x:=x) X cl sg tk
 have f3:=PySem.F.attr_ValueError.ga.bind (.ref x)
 have hx2:(Value.builtin "BaseException.__getattribute__" ==Value.builtin "object.__getattribute__")=false:=by decide+kernel
 unfold getAttr? getAttrBy? getAttrBy
 refine wpAny_bind (wpAny_mkText (wpAny_bind (wpAny_attempt (wpAny_holding (wpAny_bind (L0.at (wpAny_bind (L1.at ?_))))))))
 dsimp only
 rw[hx2,Bool.and_false,if_neg Bool.false_ne_true]
 unfold getAttrByItsOwn hookBefore callGetattribute boundAndCalled
 refine wpAny_bind (L2.at ?_)
 refine wpAny_bind (wpAny_attempt (wpAny_holding ?_))
 rw[Bool.false_and,if_neg Bool.false_ne_true,f3]
 refine wpAny_bind (wpAny_pure ?_)
 refine wpAny_call (codeAny_call_builtin PySem.F.attr_ValueError.ga.plain PySem.F.entry_bexc_ga ?_)
 have hk:builtinKind "BaseException.__getattribute__" =some .slot:=by decide+kernel
 have hsplit:splitId "BaseException.__getattribute__" =some ("BaseException","__getattribute__"):=by decide+kernel
 have ha:=PySem.F.args_bexc_ga (.ref x) (Value.str (Str.ofString "__class__") t)
 simp only[checkBuiltinCall,hk,hsplit]
 unfold isInstance
 refine wpAny_bind (wpAny_bind (L0.at ?_))
 refine LB.at ?_
 rw[if_neg (by decide)]
 have fin:∀s1:Shared,s1=⟨hh,g,d,t+1,os⟩->wpAny (model prog w) A.in1 («object.__getattribute__» {pos:=[Value.ref x]++[Value.str (Str.ofString "__class__") t]}) (λfin s'=>match fin with | .done (.ret v)=>v= .ref D/\s'=s1 |_=>False) (λ_ _=>False) s1:=by
  intro s1 hs1
  subst hs1
  unfold «object.__getattribute__» bindTo
  repeat (any_goals (first |with_reducible refine wpAny_call (Eo X L0 mo ?_) |lk))
  exact⟨rfl,rfl⟩
 unfold argsOk at ha
 have sg2:∀sig,Manifest.signature? "BaseException.__getattribute__" =some sig->Bind.checkArgs "BaseException.__getattribute__" sig {pos:=[Value.ref x,Value.str (Str.ofString "__class__") t]}=pure ():=λsig e=>by
  rw[e] at ha
  exact ha
 have Y3:∀{P:Unit->Shared->Prop}{E':Value->Shared->Prop}{s1:Shared},P () s1->wpAny (model prog w) A.in1 (match Manifest.signature? "BaseException.__getattribute__" with |some sig=>Bind.checkArgs "BaseException.__getattribute__" sig {pos:=[Value.ref x]++[Value.str (Str.ofString "__class__") t]} |_=>pure ()) P E' s1:=fun {P E' s1} p=>by
  split
  ·rename_i sig e
   rw[show[Value.ref x]++[Value.str (Str.ofString "__class__") t]=[Value.ref x,Value.str (Str.ofString "__class__") t] from rfl,sg2 sig e]
   exact wpAny_pure p
  ·exact wpAny_pure p
 refine Y3 ?_
 refine wpAny_mono (fin _ rfl) (λfi s' z=>?_) λ_ _ z=>z.elim
 rcases fi with(_ |_ |_ |v) |_
 all_goals first |exact z.elim |skip
 obtain⟨rfl,rfl⟩:=z
 exact handed_on rfl (wpAny_pure h)
theorem Ct (hA:erA K D=true):KitX K (.ref x) (.ref D) (λh=>∃ o,h.get? x=some o/\o.cls= .ref D) where
 ty:=λ_ _ _ ⟨o,ho,hc⟩=>hc▸(Looks.ld ho).andThen .now
 it:=λ_ _ X _=>by
  unfold erA at hA
  simp only[Bool.and_eq_true] at hA
  have z0:=hA.1.2
  unfold clsIn at z0
  split at z0
  ·rename_i ho
   intro A' Q' E' s' k q
   unfold isType loadHead
   exact wpAny_bind (wpAny_loadPart (k _ _ (X _ _ ho)) (wpAny_pure q))
  ·cases z0
 ne:=λh tp dd its n sl X htp=>by
  unfold erA at hA
  simp only[Bool.and_eq_true] at hA
  have z0:=hA.1.2
  refine Bool.eq_false_iff.mpr λq=>?_
  have e:D=tp:=Value.ref.inj (beq_iff_eq.mp q)
  subst e
  unfold clsIn at z0
  split at z0
  ·rename_i ho
   cases(X _ _ ho).symm.trans htp
  ·cases z0
 ca:=λX I k=>Fb X I hA k
end
theorem Bt {X:Cx}{x:Str}{v:V}{pos:Pos}(h:∃u,X.mg x=some u/\X8 v u)(hg:Gl X x)(hd:(x==("__debug__":Str))=false:=by decide):PE X (.Name x pos) (tC v):=by
 obtain⟨u,hm,r⟩:=h
 exact Z8 hg hm r hd
theorem PS.nox {X:Cx}{st:Stmt}{t:TS}(h:PS X.nox st t):PS X st t:=λpins s σ H D I hw=>
 wpAny_mono (h pins s σ H D (I.wish _) hw) (λ_ _ q=>q.unwish) λ_ _ z=>False.elim z
theorem ZT {X:Cx}{a C:Addr}{o:Obj}{pn:List (Addr×Obj)}(hpn:X.pn=pn)(hp:(a,o)∈pn)(hc:o.cls= .ref C){K:Frag}(hK:X.K=K):ZJ X (.builtin "isinstance") (ID K (.ref C) a):=by
 subst hpn hK
 intro pins s σ H xs us Q I r ⟨d,b,C',hC',hA,hxs,hd,hk,q⟩
 cases hC'
 subst hxs
 obtain⟨e,_⟩:=I.pin (a,o) (List.mem_append_left _ hp)
 cases r with
 |cons r1 r2=>
  cases r2 with
  |cons r3 r4=>
   cases r4
   rename_i u1 u2
   obtain rfl:u1=Value.ref a:=r1
   have e2:u2=vOf d:=by
    rcases hd with⟨D,rfl⟩ | ⟨n,rfl⟩
    ·exact r3
    ·exact r3
   subst e2
   exact kia_one (Ct hA) I.kIn ⟨o,e,hc⟩ hk (λz=>nomatch z) λtk=>⟨.bl b,H,I.tok tk,rfl,q⟩
section
variable {K:PySem.W.Frag}{C D:Addr}{b:Bool}
theorem KN (h1:PySem.W.findIn K (.ref C) "__getattribute__" =some (some (.builtin "BaseException.__getattribute__")))(h2:PySem.W.findIn K (.ref C) "__getattr__" =some none)(h3:PySem.W.findIn K (.ref C) "__class__" =some (some (.builtin "object.__class__")))
  (h6:PySem.W.mroIn K C (.type "object")=some true)(h7:PySem.W.isClsIn K C=true)(h8:PySem.W.mroIn K C (.type "BaseException")=some true)(h4:PySem.W.specialIn K (.builtin "object.__class__") "__get__" =some (some (.builtin "getset_descriptor.__get__")))(h5:PySem.W.takesIn K (.builtin "object.__class__")=some true):erA K C=true:=by
 unfold erA
 unfold PySem.W.isClsIn at h7
 rw[h1,h2,h3,h4,h5,h6,h7,h8]
 rfl
theorem Vu (h:PySem.W.subIn K (.ref C) (.type "ValueError")=some true):PySem.W.kitOne K (.ref C) (.type "ValueError")=some true:=by
 have e:PySem.W.kitOne K (.ref C) (.type "ValueError")=PySem.W.subIn K (.ref C) (.type "ValueError"):=rfl
 rw[e,h]
theorem ZZ (s:PySem.W.subIn K (.ref C) (.ref C)=some true)(h:PySem.W.subIn K (.ref C) (.ref D)=some b)(h7:PySem.W.isClsIn K D=true)(ht:PySem.W.typeIn K (.ref D)=some (.type "type"))(hb:PySem.W.subIn K (.ref D) (.type "BaseException")=some true):
  PySem.W.kitOne K (.ref C) (.ref D)=some b/\PySem.W.exmOne K (.ref C) (.ref D)=some b:=by
 have e:PySem.W.kitCls K (.ref C) (.ref D)=some b:=by
  unfold PySem.W.kitCls
  unfold PySem.W.isClsIn at h7
  dsimp only
  rw[h7,ht,h]
  rfl
 constructor
 ·unfold PySem.W.kitOne
  rw[e]
  split
  ·rename_i q
   have q:=eq_of_beq q
   rw[←q,s] at h
   exact h
  ·rfl
 ·unfold PySem.W.exmOne
  rw[hb,e]
  rfl
end
end L2
namespace L2
open PySem PySem.Spec PyProof.Rows
theorem P3.dropLast {α β γ:Type}{F:α->β->γ->Prop}:∀{l m n},P3 F l m n->P3 F l.dropLast m.dropLast n.dropLast
 |_,_,_, .nil=>.nil
 |_,_,_, .cons _ .nil=>.nil
 |_,_,_, .cons r (.cons q t)=>.cons r (P3.dropLast (.cons q t))
section
variable {α β:Type}{K:PySem.W.Frag}{Er:Exc->Hp->Prop}{S:SC}{OO:List (List Xr)}{σ:St}{Fd:Ends->β->Hp->Prop}[fd:FdOk Fd]{u:TS}
end
section
variable {α β γ δ ε:Type}
noncomputable def rEi (r:Enc α)(q:Enc β):Enc (α ⊕ β):=λK H v a=>match a with
 | .inl a=>r K H v a
 | .inr b=>q K H v b
noncomputable def oEi (o:OE α)(p:OE β):OE (α ⊕ β):=λK H v a C=>match a with
 | .inl a=>o K H v a C
 | .inr b=>p K H v b C
instance {r:Enc α}{q:Enc β}[m:MonoE r][n:MonoE q]:MonoE (rEi r q):=⟨fun {K H H' v a} s h=>by cases a with
 |inl a=>exact m.mono s h
 |inr a=>exact n.mono s h⟩
instance {r:Enc α}{q:Enc β}[m:FlatE r][n:FlatE q]:FlatE (rEi r q):=⟨fun {K H H' v a} s h=>by cases a with
 |inl a=>exact m.flat s h
 |inr a=>exact n.flat s h⟩
instance {r:OE α}{q:OE β}[m:MonoO r][n:MonoO q]:MonoO (oEi r q):=⟨fun {K H H' v a C} s h=>by cases a with
 |inl a=>exact m.mono s h
 |inr a=>exact n.mono s h⟩
instance {r:OE α}{q:OE β}[m:FlatO r][n:FlatO q]:FlatO (oEi r q):=⟨fun {K H H' v a C} s h=>by cases a with
 |inl a=>exact m.flat s h
 |inr a=>exact n.flat s h⟩
instance {r:OE α}{q:OE β}{t:Enc α}{u:Enc β}[m:FrzC r t][n:FrzC q u]:FrzC (oEi r q) (rEi t u):=⟨fun {K H H' v a C} h s hc=>by cases a with
 |inl a=>exact m.frz h s hc
 |inr a=>exact n.frz h s hc⟩
inductive Kd where
 |non |bl |int |str |lst |tup
noncomputable def KdV (s:Shared)(v:Value):Kd->Prop
 | .non=>v= .none
 | .bl=>∃ b,v= .bool b
 | .int=>∃ i t,v= .int i t
 | .str=>∃ x t,v= .str x t
 | .lst=>∃ l items,v= .ref l/\s.heap.IsList l items
 | .tup=>∃ l items,v= .ref l/\s.heap.IsTuple l items
noncomputable def KdX (K:PySem.W.Frag)(H:Hp)(x:V):Kd->Prop
 | .non=>x= .non
 | .bl=>∃ b,x= .bl b
 | .int=>∃ i,x= .int i
 | .str=>∃ i,x= .str i
 | .lst=>∃ a xs,x= .ref a/\SqL K H a xs
 | .tup=>∃ a xs,x= .ref a/\SqT K H a xs
noncomputable def Kd.dis:Kd->Kd->Bool
 | .non, .bl=>true
 | .non, .int=>true
 | .non, .str=>true
 | .non, .lst=>true
 | .non, .tup=>true
 | .bl, .non=>true
 | .bl, .str=>true
 | .bl, .lst=>true
 | .bl, .tup=>true
 | .int, .non=>true
 | .int, .str=>true
 | .int, .lst=>true
 | .int, .tup=>true
 | .str, .non=>true
 | .str, .bl=>true
 | .str, .int=>true
 | .str, .lst=>true
 | .str, .tup=>true
 | .lst, .non=>true
 | .lst, .bl=>true
 | .lst, .int=>true
 | .lst, .str=>true
 | .lst, .tup=>true
 | .tup, .non=>true
 | .tup, .bl=>true
 | .tup, .int=>true
 | .tup, .str=>true
 | .tup, .lst=>true
 |_,_=>false
theorem kdV {X:Cx}{pins:List (Addr×Obj)}{σ:St}{H:Hp}{s:Shared}{x:V}{v:Value}(I:Inv X pins σ H s)(rx:X8 x v):∀{k:Kd},KdX X.K H x k->KdV s v k
 | .non,h=>by cases(show x= .non from h);cases rx;rfl
 | .bl,⟨b,h⟩=>by subst h;cases rx;exact⟨b,rfl⟩
 | .int,⟨b,h⟩=>by subst h;obtain⟨t,rfl⟩:=rx;exact⟨b,t,rfl⟩
 | .str,⟨b,h⟩=>by subst h;obtain⟨t,rfl⟩:=rx;exact⟨b,t,rfl⟩
 | .lst,⟨a,xs,h,q⟩=>by
  subst h;cases rx
  obtain⟨its,r1,l1,_⟩:=I.list q
  exact⟨a,_,rfl,l1.isList⟩
 | .tup,⟨a,xs,h,q⟩=>by
  subst h;cases rx
  obtain⟨its,r1,l1,_⟩:=I.tuple q
  exact⟨a,_,rfl,l1⟩
theorem Ig {X:Cx}{pins:List (Addr×Obj)}{σ:St}{H:Hp}{s:Shared}{x:V}(I:Inv X pins σ H s):∀{j k:Kd},j.dis k=true->KdX X.K H x j->KdX X.K H x k->False
 | .non, .bl,_,h1,h2=>by
  have e1:x= .non:=h1
  obtain⟨b2,e2⟩:=h2
  rw[e1] at e2;cases e2
 | .non, .int,_,h1,h2=>by
  have e1:x= .non:=h1
  obtain⟨b2,e2⟩:=h2
  rw[e1] at e2;cases e2
 | .non, .str,_,h1,h2=>by
  have e1:x= .non:=h1
  obtain⟨b2,e2⟩:=h2
  rw[e1] at e2;cases e2
 | .non, .lst,_,h1,h2=>by
  have e1:x= .non:=h1
  obtain⟨a2,xs2,e2,q2⟩:=h2
  rw[e1] at e2;cases e2
 | .non, .tup,_,h1,h2=>by
  have e1:x= .non:=h1
  obtain⟨a2,xs2,e2,q2⟩:=h2
  rw[e1] at e2;cases e2
 | .bl, .non,_,h1,h2=>by
  obtain⟨b1,e1⟩:=h1
  have e2:x= .non:=h2
  rw[e1] at e2;cases e2
 | .bl, .str,_,h1,h2=>by
  obtain⟨b1,e1⟩:=h1
  obtain⟨b2,e2⟩:=h2
  rw[e1] at e2;cases e2
 | .bl, .lst,_,h1,h2=>by
  obtain⟨b1,e1⟩:=h1
  obtain⟨a2,xs2,e2,q2⟩:=h2
  rw[e1] at e2;cases e2
 | .bl, .tup,_,h1,h2=>by
  obtain⟨b1,e1⟩:=h1
  obtain⟨a2,xs2,e2,q2⟩:=h2
  rw[e1] at e2;cases e2
 | .int, .non,_,h1,h2=>by
  obtain⟨b1,e1⟩:=h1
  have e2:x= .non:=h2
  rw[e1] at e2;cases e2
 | .int, .str,_,h1,h2=>by
  obtain⟨b1,e1⟩:=h1
  obtain⟨b2,e2⟩:=h2
  rw[e1] at e2;cases e2
 | .int, .lst,_,h1,h2=>by
  obtain⟨b1,e1⟩:=h1
  obtain⟨a2,xs2,e2,q2⟩:=h2
  rw[e1] at e2;cases e2
 | .int, .tup,_,h1,h2=>by
  obtain⟨b1,e1⟩:=h1
  obtain⟨a2,xs2,e2,q2⟩:=h2
  rw[e1] at e2;cases e2
 | .str, .non,_,h1,h2=>by
  obtain⟨b1,e1⟩:=h1
  have e2:x= .non:=h2
  rw[e1] at e2;cases e2
 | .str, .bl,_,h1,h2=>by
  obtain⟨b1,e1⟩:=h1
  obtain⟨b2,e2⟩:=h2
  rw[e1] at e2;cases e2
 | .str, .int,_,h1,h2=>by
  obtain⟨b1,e1⟩:=h1
  obtain⟨b2,e2⟩:=h2
  rw[e1] at e2;cases e2
 | .str, .lst,_,h1,h2=>by
  obtain⟨b1,e1⟩:=h1
  obtain⟨a2,xs2,e2,q2⟩:=h2
  rw[e1] at e2;cases e2
 | .str, .tup,_,h1,h2=>by
  obtain⟨b1,e1⟩:=h1
  obtain⟨a2,xs2,e2,q2⟩:=h2
  rw[e1] at e2;cases e2
 | .lst, .non,_,h1,h2=>by
  obtain⟨a1,xs1,e1,q1⟩:=h1
  have e2:x= .non:=h2
  rw[e1] at e2;cases e2
 | .lst, .bl,_,h1,h2=>by
  obtain⟨a1,xs1,e1,q1⟩:=h1
  obtain⟨b2,e2⟩:=h2
  rw[e1] at e2;cases e2
 | .lst, .int,_,h1,h2=>by
  obtain⟨a1,xs1,e1,q1⟩:=h1
  obtain⟨b2,e2⟩:=h2
  rw[e1] at e2;cases e2
 | .lst, .str,_,h1,h2=>by
  obtain⟨a1,xs1,e1,q1⟩:=h1
  obtain⟨b2,e2⟩:=h2
  rw[e1] at e2;cases e2
 | .lst, .tup,_,h1,h2=>by
  obtain⟨a1,xs1,e1,q1⟩:=h1
  obtain⟨a2,xs2,e2,q2⟩:=h2
  rw[e1] at e2;cases e2
  obtain⟨i1,_,l1,_⟩:=I.list q1
  obtain⟨i2,_,l2,_⟩:=I.tuple q2
  exact SeqAt.ne_of_list_tuple l1.isList l2 rfl
 | .tup, .non,_,h1,h2=>by
  obtain⟨a1,xs1,e1,q1⟩:=h1
  have e2:x= .non:=h2
  rw[e1] at e2;cases e2
 | .tup, .bl,_,h1,h2=>by
  obtain⟨a1,xs1,e1,q1⟩:=h1
  obtain⟨b2,e2⟩:=h2
  rw[e1] at e2;cases e2
 | .tup, .int,_,h1,h2=>by
  obtain⟨a1,xs1,e1,q1⟩:=h1
  obtain⟨b2,e2⟩:=h2
  rw[e1] at e2;cases e2
 | .tup, .str,_,h1,h2=>by
  obtain⟨a1,xs1,e1,q1⟩:=h1
  obtain⟨b2,e2⟩:=h2
  rw[e1] at e2;cases e2
 | .tup, .lst,_,h1,h2=>by
  obtain⟨a1,xs1,e1,q1⟩:=h1
  obtain⟨a2,xs2,e2,q2⟩:=h2
  rw[e1] at e2;cases e2
  obtain⟨i1,_,l1,_⟩:=I.list q2
  obtain⟨i2,_,l2,_⟩:=I.tuple q1
  exact SeqAt.ne_of_list_tuple l1.isList l2 rfl
 | .non, .non,h,_,_=>absurd h Bool.false_ne_true
 | .bl, .bl,h,_,_=>absurd h Bool.false_ne_true
 | .bl, .int,h,_,_=>absurd h Bool.false_ne_true
 | .int, .bl,h,_,_=>absurd h Bool.false_ne_true
 | .int, .int,h,_,_=>absurd h Bool.false_ne_true
 | .str, .str,h,_,_=>absurd h Bool.false_ne_true
 | .lst, .lst,h,_,_=>absurd h Bool.false_ne_true
 | .tup, .tup,h,_,_=>absurd h Bool.false_ne_true
theorem EO {s:Shared}{A:Around}{v u:Value}(hu:A.units<cLine):∀{j k:Kd},j.dis k=true->KdV s v j->KdV s u k->SeqAt.EqAt A s v u false/\SeqAt.RcAt A s v u false/\SeqAt.RcNeAt A s v u true
 | .non, .non,h,_,_=>absurd h Bool.false_ne_true
 | .non, .bl,_,h1,h2=>by
  cases(show _=Value.none from h1)
  obtain⟨b2,rfl⟩:=h2
  exact⟨SeqAt.EqAt.none_bool b2,SeqAt.RcAt.none_bool b2,SeqAt.RcNeAt.none_bool b2⟩
 | .non, .int,_,h1,h2=>by
  cases(show _=Value.none from h1)
  obtain⟨i2,t2,rfl⟩:=h2
  exact⟨SeqAt.EqAt.none_int i2 t2,SeqAt.RcAt.none_int i2 t2,SeqAt.RcNeAt.none_int i2 t2⟩
 | .non, .str,_,h1,h2=>by
  cases(show _=Value.none from h1)
  obtain⟨i2,t2,rfl⟩:=h2
  exact⟨SeqAt.EqAt.none_str i2 t2,SeqAt.RcAt.none_str i2 t2,SeqAt.RcNeAt.none_str i2 t2⟩
 | .non, .lst,_,h1,h2=>by
  cases(show _=Value.none from h1)
  obtain⟨l2,is2,rfl,q2⟩:=h2
  exact⟨SeqAt.EqAt.none_list q2 hu,SeqAt.RcAt.none_list q2 hu,SeqAt.RcNeAt.none_list q2 hu⟩
 | .non, .tup,_,h1,h2=>by
  cases(show _=Value.none from h1)
  obtain⟨l2,is2,rfl,q2⟩:=h2
  exact⟨SeqAt.EqAt.none_tuple q2 hu,SeqAt.RcAt.none_tuple q2 hu,SeqAt.RcNeAt.none_tuple q2 hu⟩
 | .bl, .non,_,h1,h2=>by
  obtain⟨b1,rfl⟩:=h1
  cases(show _=Value.none from h2)
  exact⟨SeqAt.EqAt.bool_none b1,SeqAt.RcAt.bool_none b1,SeqAt.RcNeAt.bool_none b1⟩
 | .bl, .bl,h,_,_=>absurd h Bool.false_ne_true
 | .bl, .int,h,_,_=>absurd h Bool.false_ne_true
 | .bl, .str,_,h1,h2=>by
  obtain⟨b1,rfl⟩:=h1
  obtain⟨i2,t2,rfl⟩:=h2
  exact⟨SeqAt.EqAt.bool_str b1 i2 t2,SeqAt.RcAt.bool_str b1 i2 t2,SeqAt.RcNeAt.bool_str b1 i2 t2⟩
 | .bl, .lst,_,h1,h2=>by
  obtain⟨b1,rfl⟩:=h1
  obtain⟨l2,is2,rfl,q2⟩:=h2
  exact⟨SeqAt.EqAt.bool_list b1 q2 hu,SeqAt.RcAt.bool_list b1 q2 hu,SeqAt.RcNeAt.bool_list b1 q2 hu⟩
 | .bl, .tup,_,h1,h2=>by
  obtain⟨b1,rfl⟩:=h1
  obtain⟨l2,is2,rfl,q2⟩:=h2
  exact⟨SeqAt.EqAt.bool_tuple b1 q2 hu,SeqAt.RcAt.bool_tuple b1 q2 hu,SeqAt.RcNeAt.bool_tuple b1 q2 hu⟩
 | .int, .non,_,h1,h2=>by
  obtain⟨i1,t1,rfl⟩:=h1
  cases(show _=Value.none from h2)
  exact⟨SeqAt.EqAt.int_none i1 t1,SeqAt.RcAt.int_none i1 t1,SeqAt.RcNeAt.int_none i1 t1⟩
 | .int, .bl,h,_,_=>absurd h Bool.false_ne_true
 | .int, .int,h,_,_=>absurd h Bool.false_ne_true
 | .int, .str,_,h1,h2=>by
  obtain⟨i1,t1,rfl⟩:=h1
  obtain⟨i2,t2,rfl⟩:=h2
  exact⟨SeqAt.EqAt.int_str i1 t1 i2 t2,SeqAt.RcAt.int_str i1 t1 i2 t2,SeqAt.RcNeAt.int_str i1 t1 i2 t2⟩
 | .int, .lst,_,h1,h2=>by
  obtain⟨i1,t1,rfl⟩:=h1
  obtain⟨l2,is2,rfl,q2⟩:=h2
  exact⟨SeqAt.EqAt.int_list i1 t1 q2 hu,SeqAt.RcAt.int_list i1 t1 q2 hu,SeqAt.RcNeAt.int_list i1 t1 q2 hu⟩
 | .int, .tup,_,h1,h2=>by
  obtain⟨i1,t1,rfl⟩:=h1
  obtain⟨l2,is2,rfl,q2⟩:=h2
  exact⟨SeqAt.EqAt.int_tuple i1 t1 q2 hu,SeqAt.RcAt.int_tuple i1 t1 q2 hu,SeqAt.RcNeAt.int_tuple i1 t1 q2 hu⟩
 | .str, .non,_,h1,h2=>by
  obtain⟨i1,t1,rfl⟩:=h1
  cases(show _=Value.none from h2)
  exact⟨SeqAt.EqAt.str_none i1 t1,SeqAt.RcAt.str_none i1 t1,SeqAt.RcNeAt.str_none i1 t1⟩
 | .str, .bl,_,h1,h2=>by
  obtain⟨i1,t1,rfl⟩:=h1
  obtain⟨b2,rfl⟩:=h2
  exact⟨SeqAt.EqAt.str_bool i1 t1 b2,SeqAt.RcAt.str_bool i1 t1 b2,SeqAt.RcNeAt.str_bool i1 t1 b2⟩
 | .str, .int,_,h1,h2=>by
  obtain⟨i1,t1,rfl⟩:=h1
  obtain⟨i2,t2,rfl⟩:=h2
  exact⟨SeqAt.EqAt.str_int i1 t1 i2 t2,SeqAt.RcAt.str_int i1 t1 i2 t2,SeqAt.RcNeAt.str_int i1 t1 i2 t2⟩
 | .str, .str,h,_,_=>absurd h Bool.false_ne_true
 | .str, .lst,_,h1,h2=>by
  obtain⟨i1,t1,rfl⟩:=h1
  obtain⟨l2,is2,rfl,q2⟩:=h2
  exact⟨SeqAt.EqAt.str_list i1 t1 q2 hu,SeqAt.RcAt.str_list i1 t1 q2 hu,SeqAt.RcNeAt.str_list i1 t1 q2 hu⟩
 | .str, .tup,_,h1,h2=>by
  obtain⟨i1,t1,rfl⟩:=h1
  obtain⟨l2,is2,rfl,q2⟩:=h2
  exact⟨SeqAt.EqAt.str_tuple i1 t1 q2 hu,SeqAt.RcAt.str_tuple i1 t1 q2 hu,SeqAt.RcNeAt.str_tuple i1 t1 q2 hu⟩
 | .lst, .non,_,h1,h2=>by
  obtain⟨l1,is1,rfl,q1⟩:=h1
  cases(show _=Value.none from h2)
  exact⟨SeqAt.EqAt.list_none q1 hu,SeqAt.RcAt.list_none q1 hu,SeqAt.RcNeAt.list_none q1 hu⟩
 | .lst, .bl,_,h1,h2=>by
  obtain⟨l1,is1,rfl,q1⟩:=h1
  obtain⟨b2,rfl⟩:=h2
  exact⟨SeqAt.EqAt.list_bool b2 q1 hu,SeqAt.RcAt.list_bool b2 q1 hu,SeqAt.RcNeAt.list_bool b2 q1 hu⟩
 | .lst, .int,_,h1,h2=>by
  obtain⟨l1,is1,rfl,q1⟩:=h1
  obtain⟨i2,t2,rfl⟩:=h2
  exact⟨SeqAt.EqAt.list_int i2 t2 q1 hu,SeqAt.RcAt.list_int i2 t2 q1 hu,SeqAt.RcNeAt.list_int i2 t2 q1 hu⟩
 | .lst, .str,_,h1,h2=>by
  obtain⟨l1,is1,rfl,q1⟩:=h1
  obtain⟨i2,t2,rfl⟩:=h2
  exact⟨SeqAt.EqAt.list_str i2 t2 q1 hu,SeqAt.RcAt.list_str i2 t2 q1 hu,SeqAt.RcNeAt.list_str i2 t2 q1 hu⟩
 | .lst, .lst,h,_,_=>absurd h Bool.false_ne_true
 | .lst, .tup,_,h1,h2=>by
  obtain⟨l1,is1,rfl,q1⟩:=h1
  obtain⟨l2,is2,rfl,q2⟩:=h2
  exact⟨SeqAt.EqAt.of_refs (SeqAt.ne_of_list_tuple q1 q2) (SeqAt.RcAt.list_tuple q1 q2 hu),SeqAt.RcAt.list_tuple q1 q2 hu,SeqAt.RcNeAt.list_tuple q1 q2 hu⟩
 | .tup, .non,_,h1,h2=>by
  obtain⟨l1,is1,rfl,q1⟩:=h1
  cases(show _=Value.none from h2)
  exact⟨SeqAt.EqAt.tuple_none q1 hu,SeqAt.RcAt.tuple_none q1 hu,SeqAt.RcNeAt.tuple_none q1 hu⟩
 | .tup, .bl,_,h1,h2=>by
  obtain⟨l1,is1,rfl,q1⟩:=h1
  obtain⟨b2,rfl⟩:=h2
  exact⟨SeqAt.EqAt.tuple_bool b2 q1 hu,SeqAt.RcAt.tuple_bool b2 q1 hu,SeqAt.RcNeAt.tuple_bool b2 q1 hu⟩
 | .tup, .int,_,h1,h2=>by
  obtain⟨l1,is1,rfl,q1⟩:=h1
  obtain⟨i2,t2,rfl⟩:=h2
  exact⟨SeqAt.EqAt.tuple_int i2 t2 q1 hu,SeqAt.RcAt.tuple_int i2 t2 q1 hu,SeqAt.RcNeAt.tuple_int i2 t2 q1 hu⟩
 | .tup, .str,_,h1,h2=>by
  obtain⟨l1,is1,rfl,q1⟩:=h1
  obtain⟨i2,t2,rfl⟩:=h2
  exact⟨SeqAt.EqAt.tuple_str i2 t2 q1 hu,SeqAt.RcAt.tuple_str i2 t2 q1 hu,SeqAt.RcNeAt.tuple_str i2 t2 q1 hu⟩
 | .tup, .lst,_,h1,h2=>by
  obtain⟨l1,is1,rfl,q1⟩:=h1
  obtain⟨l2,is2,rfl,q2⟩:=h2
  exact⟨SeqAt.EqAt.of_refs (λe=>SeqAt.ne_of_list_tuple q2 q1 e.symm) (SeqAt.RcAt.tuple_list q1 q2 hu),SeqAt.RcAt.tuple_list q1 q2 hu,SeqAt.RcNeAt.tuple_list q1 q2 hu⟩
 | .tup, .tup,h,_,_=>absurd h Bool.false_ne_true
class KdE (r:Enc α)(k:outParam Kd):Prop where
 to:∀{K:PySem.W.Frag}{H:Hp}{x:V}{a:α},r K H x a->KdX K H x k
instance:KdE Xd .int:=⟨λh=>⟨_,h⟩⟩
instance:KdE Xz .bl:=⟨λh=>⟨_,h⟩⟩
instance:KdE XG .str:=⟨λh=>⟨_,h⟩⟩
instance {r:Enc α}:KdE (rV r) .lst:=⟨λr9=>by obtain⟨a,xs,e,q,_⟩:=r9;exact⟨a,xs,e,SqL.of q⟩⟩
instance {r:Enc α}:KdE (rPL r) .tup:=⟨λr9=>by obtain⟨a,xs,e,q,_⟩:=r9;exact⟨a,xs,e,SqT.of q⟩⟩
instance {r:Enc α}{q:Enc β}:KdE (rP2 r q) .tup:=⟨λr9=>by obtain⟨a,x,y,e,q,_⟩:=r9;exact⟨a,_,e,SqT.of q⟩⟩
instance {r:Enc α}{q:Enc β}{t:Enc γ}:KdE (rP3 r q t) .tup:=⟨λr9=>by obtain⟨a,x,y,z,e,q,_⟩:=r9;exact⟨a,_,e,SqT.of q⟩⟩
structure Crs (r:Enc α)(q:Enc β)(d:Nat):Prop where
 no:∀{X:Cx}{pins:List (Addr×Obj)}{σ:St}{H:Hp}{s:Shared}{x:V}{a:α}{b:β},Inv X pins σ H s->r X.K H x a->q X.K H x b->False
 lr:∀{X:Cx}{pins:List (Addr×Obj)}{σ:St}{H:Hp}{s:Shared}{x y:V}{v u:Value}{a:α}{b:β}{A:Around},Inv X pins σ H s->X8 x v->X8 y u->r X.K H x a->q X.K H y b->A.units+d<cLine->SeqAt.EqAt A s v u false/\SeqAt.RcAt A s v u false/\SeqAt.RcNeAt A s v u true
 rl:∀{X:Cx}{pins:List (Addr×Obj)}{σ:St}{H:Hp}{s:Shared}{x y:V}{v u:Value}{a:α}{b:β}{A:Around},Inv X pins σ H s->X8 x v->X8 y u->q X.K H x b->r X.K H y a->A.units+d<cLine->SeqAt.EqAt A s v u false/\SeqAt.RcAt A s v u false/\SeqAt.RcNeAt A s v u true
theorem Crs.up {r:Enc α}{q:Enc β}{d e:Nat}(c:Crs r q d)(h:d<=e):Crs r q e:=⟨c.no,λI rx ry h1 h2 hu=>c.lr I rx ry h1 h2 (by omega),λI rx ry h1 h2 hu=>c.rl I rx ry h1 h2 (by omega)⟩
theorem Km {r:Enc α}{q:Enc β}{j k:Kd}[m:KdE r j][n:KdE q k](h:j.dis k=true)(h':k.dis j=true):Crs r q 0:=
 ⟨λI h1 h2=>Ig I h (m.to h1) (n.to h2),λI rx ry h1 h2 hu=>EO (by omega) h (kdV I rx (m.to h1)) (kdV I ry (n.to h2)),λI rx ry h1 h2 hu=>EO (by omega) h' (kdV I rx (n.to h1)) (kdV I ry (m.to h2))⟩
theorem KZ [DecidableEq α][DecidableEq β]{r:Enc α}{q:Enc β}{d:Nat}[m:MonoE r][n:MonoE q](E:EqOk r d)(F:EqOk q d)(c:Crs r q d):EqOk (rEi r q) d where
 uniq:=fun {X pins σ H s x a b} I h1 h2=>by
  cases a with
  |inl a=>cases b with
   |inl b=>rw[E.uniq I h1 h2]
   |inr b=>exact(c.no I h1 h2).elim
  |inr a=>cases b with
   |inl b=>exact(c.no I h2 h1).elim
   |inr b=>rw[F.uniq I h1 h2]
 eq:=fun {X pins σ H s x y v u a b A} I rx ry h1 h2 hu=>by
  cases a with
  |inl a=>cases b with
   |inl b=>have:=E.eq I rx ry h1 h2 hu;simpa using this
   |inr b=>have:=(c.lr I rx ry h1 h2 hu).1;simpa using this
  |inr a=>cases b with
   |inl b=>have:=(c.rl I rx ry h1 h2 hu).1;simpa using this
   |inr b=>have:=F.eq I rx ry h1 h2 hu;simpa using this
 rc:=fun {X pins σ H s x y v u a b A} I rx ry h1 h2 hu=>by
  cases a with
  |inl a=>cases b with
   |inl b=>have:=E.rc I rx ry h1 h2 hu;simpa using this
   |inr b=>have:=(c.lr I rx ry h1 h2 hu).2.1;simpa using this
  |inr a=>cases b with
   |inl b=>have:=(c.rl I rx ry h1 h2 hu).2.1;simpa using this
   |inr b=>have:=F.rc I rx ry h1 h2 hu;simpa using this
 ne:=fun {X pins σ H s x y v u a b A} I rx ry h1 h2 hu=>by
  cases a with
  |inl a=>cases b with
   |inl b=>have:=E.ne I rx ry h1 h2 hu;simpa using this
   |inr b=>have:=(c.lr I rx ry h1 h2 hu).2.2;simpa using this
  |inr a=>cases b with
   |inl b=>have:=(c.rl I rx ry h1 h2 hu).2.2;simpa using this
   |inr b=>have:=F.ne I rx ry h1 h2 hu;simpa using this
 keep:=λs q=>MonoE.mono s q
theorem Ez {a b:Str}:(a==b)=decide (a=b):=by rw[Bool.eq_iff_iff];simp
theorem QO:EqOk XG 0 where
 uniq:=λ_ h1 h2=>by
  have h1':_=V.str _:=h1
  have h2':_=V.str _:=h2
  rw[h1'] at h2';injection h2'
 eq:=fun {X pins σ H s x y v u a b A} I rx ry h1 h2 _=>by
  have h1':x=V.str a:=h1
  have h2':y=V.str b:=h2
  subst h1' h2'
  obtain⟨t,rfl⟩:=rx
  obtain⟨t',rfl⟩:=ry
  rw[←Ez];exact SeqAt.EqAt.str_str a t b t'
 rc:=fun {X pins σ H s x y v u a b A} I rx ry h1 h2 _=>by
  have h1':x=V.str a:=h1
  have h2':y=V.str b:=h2
  subst h1' h2'
  obtain⟨t,rfl⟩:=rx
  obtain⟨t',rfl⟩:=ry
  rw[←Ez];exact SeqAt.RcAt.str_str a t b t'
 ne:=fun {X pins σ H s x y v u a b A} I rx ry h1 h2 _=>by
  have h1':x=V.str a:=h1
  have h2':y=V.str b:=h2
  subst h1' h2'
  obtain⟨t,rfl⟩:=rx
  obtain⟨t',rfl⟩:=ry
  rw[←Ez];exact SeqAt.RcNeAt.str_str a t b t'
 keep:=λ_ h=>h
theorem BL {a b:Bool}:(a==b)=decide (a=b):=by rw[Bool.eq_iff_iff];simp
theorem Cj:EqOk Xz 0 where
 uniq:=λ_ h1 h2=>by
  have h1':_=V.bl _:=h1
  have h2':_=V.bl _:=h2
  rw[h1'] at h2';injection h2'
 eq:=fun {X pins σ H s x y v u a b A} I rx ry h1 h2 _=>by
  have h1':x=V.bl a:=h1
  have h2':y=V.bl b:=h2
  subst h1' h2'
  cases rx;cases ry
  rw[←BL];exact SeqAt.EqAt.bool_bool a b
 rc:=fun {X pins σ H s x y v u a b A} I rx ry h1 h2 _=>by
  have h1':x=V.bl a:=h1
  have h2':y=V.bl b:=h2
  subst h1' h2'
  cases rx;cases ry
  rw[←BL];exact SeqAt.RcAt.bool_bool a b
 ne:=fun {X pins σ H s x y v u a b A} I rx ry h1 h2 _=>by
  have h1':x=V.bl a:=h1
  have h2':y=V.bl b:=h2
  subst h1' h2'
  cases rx;cases ry
  rw[←BL];exact SeqAt.RcNeAt.bool_bool a b
 keep:=λ_ h=>h
theorem K5 [DecidableEq α]{r:Enc α}{r1:Enc β}{q1:Enc δ}{d:Nat}(E:EqOk r d)(c:Crs r1 q1 d):Crs (rP2 r r1) (rP2 r q1) (d+1):=by
 refine⟨λI ⟨a,x,y,e,q,_,h⟩ ⟨b,x',y',e',q',_,h'⟩=>?_,?_,?_⟩
 ·rw[e] at e';cases e'
  cases I.tuple_inj (SqT.of q) (SqT.of q')
  exact c.no I h h'
 ·rintro X pins σ H s x y v u ⟨a1,a2⟩ ⟨b1,b2⟩ A I rx ry ⟨a,x1,x2,rfl,q,p1,p2⟩ ⟨b,y1,y2,rfl,q',p4,p5⟩ hu
  cases rx;cases ry
  have hne:a≠b:=λe=>by
   subst e
   cases I.tuple_inj (SqT.of q) (SqT.of q')
   exact c.no I p2 p5
  obtain⟨i1,z1,l1,_⟩:=I.tuple (SqT.of q)
  obtain⟨i2,z2,l2,_⟩:=I.tuple (SqT.of q')
  obtain⟨u1,u2,rfl,e1,e2⟩:=XT.two z1
  obtain⟨w1,w2,rfl,g1,g2⟩:=XT.two z2
  have it:∀j (h1:j< [u1,u2].toArray.size) (h2:j< [w1,w2].toArray.size),SeqAt.EqAt A.in1 s [u1,u2].toArray[j] [w1,w2].toArray[j] ((λj=>if j=0 then decide (a1=b1) else false) j):=by
   intro j h1 h2
   have hj:j=0∨j=1:=by
    have h1':j<2:=h2
    omega
   rcases hj with rfl |rfl
   ·exact E.eq (A:=A.in1) I e1 g1 p1 p4 (by rw[Y6];omega)
   ·exact(c.lr (A:=A.in1) I e2 g2 p2 p5 (by rw[Y6];omega)).1
  have R:=SeqAt.RcAt.tuples (A:=A) l1 l2 (by omega) it
  have N:=SeqAt.RcNeAt.tuples (A:=A) l1 l2 (by omega) it
  have R':SeqAt.RcAt A s (.ref a) (.ref b) false:=by simpa[List.range_succ] using R
  exact⟨SeqAt.EqAt.of_refs hne R',R',by simpa[List.range_succ] using N⟩
 ·rintro X pins σ H s x y v u ⟨a1,a2⟩ ⟨b1,b2⟩ A I rx ry ⟨b,y1,y2,rfl,q',p4,p5⟩ ⟨a,x1,x2,rfl,q,p1,p2⟩ hu
  cases rx;cases ry
  have hne:b≠a:=λe=>by
   subst e
   cases I.tuple_inj (SqT.of q) (SqT.of q')
   exact c.no I p2 p5
  obtain⟨i1,z1,l1,_⟩:=I.tuple (SqT.of q)
  obtain⟨i2,z2,l2,_⟩:=I.tuple (SqT.of q')
  obtain⟨u1,u2,rfl,e1,e2⟩:=XT.two z1
  obtain⟨w1,w2,rfl,g1,g2⟩:=XT.two z2
  have it:∀j (h1:j< [w1,w2].toArray.size) (h2:j< [u1,u2].toArray.size),SeqAt.EqAt A.in1 s [w1,w2].toArray[j] [u1,u2].toArray[j] ((λj=>if j=0 then decide (b1=a1) else false) j):=by
   intro j h1 h2
   have hj:j=0∨j=1:=by
    have h1':j<2:=h1
    omega
   rcases hj with rfl |rfl
   ·exact E.eq (A:=A.in1) I g1 e1 p4 p1 (by rw[Y6];omega)
   ·exact(c.rl (A:=A.in1) I g2 e2 p5 p2 (by rw[Y6];omega)).1
  have R:=SeqAt.RcAt.tuples (A:=A) l2 l1 (by omega) it
  have N:=SeqAt.RcNeAt.tuples (A:=A) l2 l1 (by omega) it
  have R':SeqAt.RcAt A s (.ref b) (.ref a) false:=by simpa[List.range_succ] using R
  exact⟨SeqAt.EqAt.of_refs hne R',R',by simpa[List.range_succ] using N⟩
end
section
variable {K:PySem.W.Frag}{Er:Exc->Hp->Prop}{S:SC}{OO OO' OO1 OO2:List (List Xr)}{σ:St}{α β γ ρ ι δ ε ζ:Type}
variable {Fd:Ends->β->Hp->Prop}[fd:FdOk Fd]{u:TS}
theorem Bp {te:TE}{o:OE α}{p:OE γ}{m:Rs α}(he:Ev K Er S OO OO' σ te o m):Ev K Er S OO OO' σ te (oEi o p) (m.bind λa=>.ok (.inl a)):=λH Q w s P=>by
 refine he H Q w s ?_
 cases m with
 |bad=>exact P
 |err x=>exact P
 |ok a=>exact λv C H' s' w' m' ho=>P v C H' s' w' m' ho
theorem Bn {te:TE}{o:OE α}{p:OE γ}{m:Rs γ}(he:Ev K Er S OO OO' σ te p m):Ev K Er S OO OO' σ te (oEi o p) (m.bind λa=>.ok (.inr a)):=λH Q w s P=>by
 refine he H Q w s ?_
 cases m with
 |bad=>exact P
 |err x=>exact P
 |ok a=>exact λv C H' s' w' m' ho=>P v C H' s' w' m' ho
theorem F9 {te:TE}{o:Enc α}{p:Enc γ}{m:Rs α}(he:EvB K Er S OO σ te o m):EvB K Er S OO σ te (rEi o p) (m.bind λa=>.ok (.inl a)):=λH Q w s P=>by
 refine he H Q w s ?_
 cases m with
 |bad=>exact P
 |err x=>exact P
 |ok a=>exact λv H' s' ho=>P v H' s' ho
theorem DC {te:TE}{o:Enc α}{p:Enc γ}{m:Rs γ}(he:EvB K Er S OO σ te p m):EvB K Er S OO σ te (rEi o p) (m.bind λa=>.ok (.inr a)):=λH Q w s P=>by
 refine he H Q w s ?_
 cases m with
 |bad=>exact P
 |err x=>exact P
 |ok a=>exact λv H' s' ho=>P v H' s' ho
noncomputable def getL:α ⊕ γ->Rs α
 | .inl a=>.ok a
 | .inr _=>.bad
noncomputable def getR:α ⊕ γ->Rs γ
 | .inl _=>.bad
 | .inr b=>.ok b
theorem Cg {te:TE}{o:Enc α}{p:Enc γ}{m:Rs (α ⊕ γ)}(he:EvB K Er S OO σ te (rEi o p) m):EvB K Er S OO σ te p (m.bind getR):=λH Q w s P=>by
 refine he H Q w s ?_
 cases m with
 |bad=>exact P
 |err x=>exact P
 |ok a=>cases a with
  |inl a=>exact P.elim
  |inr a=>exact λv H' s' ho=>P v H' s' ho
theorem G0 {o:OE α}{p:OE γ}[MonoO p]{f:γ->Rs β}{v:V}{a:α ⊕ γ}{C:List Xr}(h:∀x,S.p x->oEi o p K x v a C)(hr:∀b,Sv Er (S.addO K p v b C) OO σ u Fd (f b)):Sv Er S OO σ u Fd ((getR a).bind f):=λH D w s P=>by
 cases a with
 |inl a=>exact P.elim
 |inr b=>exact hr b H D w ⟨s,h _ s⟩ P
noncomputable def Ib:Enc V:=λ_ H v y=>∃ a x,v= .ref a/\H a=some (.tup [x,y])
instance:FlatE Ib:=⟨λs r9=>by obtain⟨a,x,e,h⟩:=r9;exact⟨a,x,e,s _ _ h rfl⟩⟩
theorem Bj {r1:Enc α}{q:OE γ}[MonoO q]{v:V}{m:Rs β}{b:α×γ}{C:List Xr}(h:∀x,S.p x->oT2 (oF r1) q K x v b C)(hr:∀y,Sv Er ((S.add K Ib v y).addO K q y b.2 C) OO σ u Fd m):Sv Er S OO σ u Fd m:=λH D w s P=>by
 obtain⟨p,x,y,C1,C2,e,hp,h1,h2,c⟩:=h _ s
 have e1:C1=[]:=h1.1
 subst e1 c
 exact hr y H D w ⟨⟨s,⟨p,x,e,hp⟩⟩,h2⟩ P
theorem Dq {v y:V}(i:Nat)(hσ:σ[i]?=some (some v))(h:∀x,S.p x->Ib K x v y):∀(H:Hp) (Q:VK),W OO H->S.p (hid H OO)->Q y H->(tOp (HP K) (VM i) (tC (.int 1))) σ H Q:=λH Q w s q=>by
 obtain⟨a,x,e,hp⟩:=h _ s
 exact⟨v,hσ,a,_,1,y,e,rfl,SqT.of (XD _ _ hp),rfl,q⟩
theorem B4 {ta tl:TE}{o:OE α}[MonoO o]{m:Rs α}{f:List α->Rs β}{v:V}{as:List α}{C:List Xr}(k:Nat)(hte:∀(H:Hp) (Q:VK),W OO H->S.p (hid H OO)->Q v H->tl σ H Q)(hk:OO[k]?=some C)(hk':OO'[k]?=some C)(h:∀x,S.p x->oL o K x v as C)(he:Ev K Er S OO OO' σ ta o m)
  (hr:∀a C',Sv Er (S.addO K (oL o) v (as++[a]) C') (OO'.set k C') σ u Fd (f (as++[a]))):Sv Er S OO σ (ZQ (UG (tBM K "list" Z4 tl (XA ta Zy))) u) Fd (m.bind λa=>chk (as.length<sizeLine) (f (as++[a]))):=λH D w s P=>by
 obtain⟨p,xs,Cs,e,q,c⟩:=h _ s
 subst c
 have hH:H p=some (.lst xs):=w.tr (p, .lst xs) (List.mem_flatten.mpr ⟨_,List.mem_of_getElem? hk,List.mem_cons_self⟩)
 refine hte _ _ w s ⟨by rw[e];exact .inl ⟨rfl,_,SqL.of hH⟩,he.st w s P λa y D' H' w' s' ho P'=>?_⟩
 obtain⟨p',xs',Cs',e2,q2,c2⟩:=h _ s'
 rw[e] at e2;cases e2
 have c3:(p,HO.lst xs)=(p,HO.lst xs')/\Cs.flatten=Cs'.flatten:=by
  injection c2 with h1 h2
  exact⟨h1,h2⟩
 obtain⟨c3,c4⟩:=c3
 cases c3
 have hH':H' p=some (.lst xs):=w'.tr (p, .lst xs) (by rw[List.flatten_cons];exact List.mem_append_right _ (List.mem_flatten.mpr ⟨_,List.mem_of_getElem? hk',List.mem_cons_self⟩))
 cases hlt:decide (as.length<sizeLine) with
 |false=>rw[chk,if_neg (by simpa using hlt)] at P';exact P'.elim
 |true=>
  have hlt':as.length<sizeLine:=by simpa using hlt
  rw[Xq hlt'] at P'
  have wnd:=w'.nd
  have hcell:∀c∈(p,HO.lst (xs++[y]))::(Cs'++[D']).flatten,upd H' p (.lst (xs++[y])) c.1=some c.2:=λc hc=>by
   rcases List.mem_cons.mp hc with rfl |hc
   ·exact Yf
   ·have hp1:=XR hk'
    have w3:W [D'++(((p,HO.lst xs)::Cs.flatten)++(OO'.set k []).flatten)] H':=w'.of (by
     simp only[List.flatten_cons,List.flatten_nil,List.append_nil]
     exact(by simpa using hp1:(((p,HO.lst xs)::Cs.flatten)++(OO'.set k []).flatten).Perm OO'.flatten).append_left D')
    have hin:c∈D'++(((p,HO.lst xs)::Cs.flatten)++(OO'.set k []).flatten):=by
     rw[Ys,List.mem_append] at hc
     rcases hc with hc |hc
     ·rw[←c4] at hc;simp[hc]
     ·simp[hc]
    have hne:c.1≠p:=λee=>by
     have nd3:=w3.nd
     rw[Ys,List.mem_append, ←c4] at hc
     simp only[fl,List.flatten_cons,List.flatten_nil,List.append_nil,List.map_append,List.cons_append,List.map_cons] at nd3
     rw[List.nodup_append] at nd3
     obtain⟨_,n2,n3⟩:=nd3
     rcases hc with hc |hc
     ·exact(List.nodup_cons.mp n2).1 (List.mem_append_left _ (List.mem_map.mpr ⟨c,hc,ee⟩))
     ·exact n3 c.1 (List.mem_map.mpr ⟨c,hc,rfl⟩) p List.mem_cons_self ee
    rw[Xw hne]
    exact w3.tr c (by simpa using hin)
  obtain⟨w4,h4⟩:=IG (C':=(p, .lst (xs++[y]))::(Cs'++[D']).flatten) w' hk' List.mem_cons_self (by simp[Ys,c4]) hcell (λc hc=>by
   rcases List.mem_cons.mp hc with rfl |hc
   ·rfl
   ·rw[Ys,List.mem_append, ←c4] at hc
    rcases hc with hc |hc
    ·exact w'.mu c (by rw[List.flatten_cons];exact List.mem_append_right _ (List.mem_flatten.mpr ⟨_,List.mem_of_getElem? hk',List.mem_cons_of_mem _ hc⟩))
    ·exact w'.mu c (by rw[List.flatten_cons];exact List.mem_append_left _ hc))
  refine⟨p,xs,y,e,rfl,hH',by rw[(P3.len q).1];exact hlt',?_⟩
  refine hr a _ _ D w4 ?_ (by rw[h4];exact P')
  rw[h4]
  exact⟨s',⟨p,xs++[y],Cs'++[D'],e,q2.snoc ho,rfl⟩⟩
end
end L2
namespace L2
theorem HC {α:Type}{us:List α}(h:us.length=1):∃a,us=[a]:=List.length_eq_one_iff.mp h
theorem Hj {α:Type}{us:List α}(h:us.length=2):∃a0 a1,us=[a0,a1]:=by
 cases us with
 |nil=>cases h
 |cons a0 t=>
  obtain⟨a1,rfl⟩:=HC (Nat.succ.inj h)
  exact⟨a0,a1,rfl⟩
theorem HA {α:Type}{us:List α}(h:us.length=3):∃a0 a1 a2,us=[a0,a1,a2]:=by
 cases us with
 |nil=>cases h
 |cons a0 t=>
  obtain⟨a1,a2,rfl⟩:=Hj (Nat.succ.inj h)
  exact⟨a0,a1,a2,rfl⟩
theorem Io {α:Type}{us:List α}(h:us.length=4):∃a0 a1 a2 a3,us=[a0,a1,a2,a3]:=by
 cases us with
 |nil=>cases h
 |cons a0 t=>
  obtain⟨a1,a2,a3,rfl⟩:=HA (Nat.succ.inj h)
  exact⟨a0,a1,a2,a3,rfl⟩
theorem HV {α:Type}{us:List α}(h:us.length=5):∃a0 a1 a2 a3 a4,us=[a0,a1,a2,a3,a4]:=by
 cases us with
 |nil=>cases h
 |cons a0 t=>
  obtain⟨a1,a2,a3,a4,rfl⟩:=Io (Nat.succ.inj h)
  exact⟨a0,a1,a2,a3,a4,rfl⟩
end L2
namespace L2
open PySem PySem.Spec PyProof.Rows
section
variable {prog:Program}{w:World}{A:Around}{E:Value->Shared->Prop}
end
section
variable {X:Cx}{pos:Pos}
end
section
variable {K:PySem.W.Frag}{Er:Exc->Hp->Prop}{S:SC}{OO OO' OO1 OO2:List (List Xr)}{σ:St}{α β γ ρ ι δ ε ζ:Type}
variable {Fd:Ends->β->Hp->Prop}[fd:FdOk Fd]{u:TS}
end
section
variable {X:Cx}
end
section
variable {K:PySem.W.Frag}{Er:Exc->Hp->Prop}{S:SC}{OO OO' OO1 OO2:List (List Xr)}{σ:St}{α β γ ρ ι δ ε ζ:Type}
variable {Fd:Ends->β->Hp->Prop}[fd:FdOk Fd]{u:TS}
end
set_option maxRecDepth 100000
section
variable {prog:Program}{w:World}{A:Around}{E:Value->Shared->Prop}{s:Shared}
end
section
variable {prog:Program}{w:World}{A:Around}{R:Result->Shared->Prop}{K:Type}[DecidableEq K]{knd:KeyKind prog w K}
noncomputable def CM (acc kv:List (K×Value)):List (K×Value):=kv.foldl (λa p=>stored a p.1 p.2) acc
end
section
variable {X:Cx}
noncomputable def EZ (acc kvs:List (Key×V)):List (Key×V):=kvs.foldl (λa p=>Co a p.1 p.2) acc
theorem KV.all {kvs:List (Key×V)}{vs:List (Key×Value)}(t:KV kvs vs):∀{acc:List (Key×V)}{acc':List (Key×Value)},KV acc acc'->KV (EZ acc kvs) (CM acc' vs):=by
 induction t with
 |nil=>intro acc acc' h;exact h
 | @cons p q kvs vs r _ ih=>
  intro acc acc' h
  have h2:=h.put p.1 r.2
  have e:stored acc' p.1 q.2=stored acc' q.1 q.2:=by rw[r.1]
  rw[e] at h2
  exact ih h2
end
section
variable {X:Cx}{pins:List (Addr×Obj)}{σ:St}{H:Hp}{s:Shared}{d:Addr}{o:Obj}{kvs:List (Key×V)}
theorem KV.key {kvs:List (Key×V)}{vs:List (Key×Value)}(h:KV kvs vs):∀{i:Nat} (h1:i<kvs.length) (h2:i<vs.length),(kvs[i]).1=(vs[i]).1:=by
 induction h with
 |nil=>intro i h1;exact absurd h1 (Nat.not_lt_zero _)
 |cons r _ ih=>
  intro i h1 h2
  cases i with
  |zero=>exact r.1
  |succ i=>exact ih (Nat.lt_of_succ_lt_succ h1) (Nat.lt_of_succ_lt_succ h2)
end
section
variable {X:Cx}
end
section
variable {K:PySem.W.Frag}{Er:Exc->Hp->Prop}{S:SC}{OO OO' OO2:List (List Xr)}{σ:St}{α β γ ρ ι δ ε:Type}
variable {Fd:Ends->β->Hp->Prop}[fd:FdOk Fd]{u:TS}
end
section
variable {prog:Program}{w:World}{A:Around}
end
section
variable {X:Cx}
end
section
variable {K:PySem.W.Frag}{Er:Exc->Hp->Prop}{S:SC}{OO OO' OO1 OO2:List (List Xr)}{σ:St}{α β γ ρ ι δ ε:Type}
variable {Fd:Ends->β->Hp->Prop}[fd:FdOk Fd]{u:TS}
end
section
variable {X:Cx}
end
section
variable {K:PySem.W.Frag}{Er:Exc->Hp->Prop}{S:SC}{OO OO' OO1 OO2:List (List Xr)}{σ:St}{α β γ ρ ι δ ε:Type}
end
section
variable {K:PySem.W.Frag}{Er:Exc->Hp->Prop}{S:SC}{OO OO' OO1 OO2:List (List Xr)}{σ:St}{α β γ ρ ι δ ε:Type}
noncomputable def tk (k:List Int):List Key:=k.map Sum.inl
variable {Fd:Ends->β->Hp->Prop}[fd:FdOk Fd]{u:TS}
end
section
variable {X:Cx}{α:Type}[DecidableEq α]{r:Enc α}{d:Nat}
end
section
variable {K:PySem.W.Frag}{Er:Exc->Hp->Prop}{S:SC}{OO OO' OO1 OO2:List (List Xr)}{σ:St}{α β γ ρ ι δ ε:Type}
end
section
variable {X:Cx}{pins:List (Addr×Obj)}{σ:St}{H:Hp}{s:Shared}{h':Heap}
theorem Inv.turns {t':Nat}{ch:List Addr}(I:Inv X pins σ H s)(k:∀b o,b∉ch->s.heap.get? b=some o->h'.get? b=some o)(hf:∀b∈ch,Ke X pins H b):Inv X pins σ H {s with heap:=h',toks:=t'}:=by
 have nit:∀b o,H b=some o->b∉ch:=λb o e z=>by rw[(hf b z).1] at e;cases e
 refine I.step (g':=s.gens) (d':=s.drawn) (ch:=ch) (λb hb=>?_) (λb o _ _ hc e _=>k b o hc e) (λb o _ _ hc e _=>⟨o.slots,k b o hc e⟩)
  (λb o _ e n=>n) (λb o hc e=>⟨o,k b o hc e⟩) (λb xs e=>e) (λb o xs e=>e) (λb ps e=>⟨#[],by rw[e];simp⟩) (λm hm=>?_) (λb v e=>?_) I.bare
 ·obtain⟨f0,f1,f2,f3,f4,f5⟩:=hf b hb
  exact⟨f3,f1,f4,f5⟩
 ·obtain⟨o,es,ep,ho,r⟩:=hm
  exact⟨o,es,ep,k _ o (λz=>(hf _ z).2.1 rfl) ho,r⟩
 ·refine(I.hok b v e).stay (λc o hc q=>k c o ?_ q) (λc q=>q) λc xs q=>q
  rcases hc with z |z
  ·rw[z];exact nit b v e
  ·exact nit c _ z
end
section
variable {X:Cx}{elts:List Expr}{k:Nat}{pos0:Pos}
end
section
variable {K:PySem.W.Frag}{Er:Exc->Hp->Prop}{S:SC}{OO OO' OO1 OO2:List (List Xr)}{σ:St}{α β γ ρ ι δ ε:Type}
end
section
variable {X:Cx}
end
section
variable {K:PySem.W.Frag}{Er:Exc->Hp->Prop}{S:SC}{OO OO' OO1 OO2:List (List Xr)}{σ:St}{α β γ ρ ι δ ε:Type}
variable {Fd:Ends->β->Hp->Prop}[fd:FdOk Fd]{u:TS}
end
section
variable {K:PySem.W.Frag}{Er:Exc->Hp->Prop}{S:SC}{OO OO' OO1 OO2:List (List Xr)}{σ:St}{α β γ ρ ι δ ε:Type}{u:TS}
end
section
variable {X:Cx}
end
section
variable {K:PySem.W.Frag}{Er:Exc->Hp->Prop}{S:SC}{OO:List (List Xr)}{σ:St}
end
section
variable {X:Cx}{pins:List (Addr×Obj)}{σ:St}{H:Hp}{s:Shared}{d:Addr}{o:Obj}{kvs:List (Key×V)}
end
section
variable {X:Cx}
end
section
variable {K:PySem.W.Frag}{Er:Exc->Hp->Prop}{S:SC}{OO OO' OO1 OO2 OO3:List (List Xr)}{σ:St}{α β γ ρ ι δ ε ζ:Type}
variable {Fd:Ends->β->Hp->Prop}[fd:FdOk Fd]{u:TS}
noncomputable def oT3 (o:OE α)(q:OE β)(t:OE γ):OE (α×β×γ):=λK h v a C=>∃ p x y z C1 C2 C3,v= .ref p/\h p=some (.tup [x,y,z])/\o K h x a.1 C1/\q K h y a.2.1 C2/\t K h z a.2.2 C3/\C=C1++(C2++C3)
instance {o:OE α}{q:OE β}{t:OE γ}[m:MonoO o][n:MonoO q][k:MonoO t]:MonoO (oT3 o q t):=⟨λs r9=>by obtain⟨p,x,y,z,C1,C2,C3,e,h,h1,h2,h3,c⟩:=r9;exact⟨p,x,y,z,C1,C2,C3,e,s _ _ h,m.mono s h1,n.mono s h2,k.mono s h3,c⟩⟩
instance {o:OE α}{q:OE β}{t:OE γ}[m:FlatO o][n:FlatO q][k:FlatO t]:FlatO (oT3 o q t):=⟨λs r9=>by obtain⟨p,x,y,z,C1,C2,C3,e,h,h1,h2,h3,c⟩:=r9;exact⟨p,x,y,z,C1,C2,C3,e,s _ _ h rfl,m.flat s h1,n.flat s h2,k.flat s h3,c⟩⟩
instance {o:OE α}{q:OE β}{t:OE γ}{ro:Enc α}{rq:Enc β}{rt:Enc γ}[m:FrzC o ro][n:FrzC q rq][k:FrzC t rt]:FrzC (oT3 o q t) (rP3 ro rq rt):=⟨λ⟨p,x,y,z,C1,C2,C3,e,h,h1,h2,h3,c⟩ s hc=>by
 subst c
 exact⟨p,x,y,z,e,s _ _ h,m.frz h1 s λc hm=>hc c (by simp[hm]),n.frz h2 s λc hm=>hc c (by simp[hm]),k.frz h3 s λc hm=>hc c (by simp[hm])⟩⟩
end
section
variable {K:PySem.W.Frag}{Er:Exc->Hp->Prop}{S:SC}{OO OO' OO1 OO2:List (List Xr)}{σ:St}{α β γ ρ ι δ ε ζ:Type}
variable {Fd:Ends->β->Hp->Prop}[fd:FdOk Fd]{u:TS}
end
section
variable {K:PySem.W.Frag}{Er:Exc->Hp->Prop}{S:SC}{OO OO' OO1 OO2:List (List Xr)}{σ:St}{α β γ ρ ι δ ε ζ:Type}
variable {Fd:Ends->β->Hp->Prop}[fd:FdOk Fd]{u:TS}
end
section
variable {K:PySem.W.Frag}{Er:Exc->Hp->Prop}{S:SC}{OO OO' OO1 OO2:List (List Xr)}{σ:St}{α β γ ρ ι δ ε ζ α1 α3 α4:Type}
variable {Fd:Ends->β->Hp->Prop}[fd:FdOk Fd]{u:TS}
end
end L2
namespace L2
open PySem
noncomputable def Inc (xs:Array Nat):Prop:=xs.toList.Pairwise (· < ·)
theorem Inc.lt {xs:Array Nat}(h:Inc xs){i j v u:Nat}(hij:i<j)(hi:xs[i]?=some v)(hj:xs[j]?=some u):v<u:=by
 rw[←Array.getElem?_toList] at hi hj
 obtain⟨a,rfl⟩:=List.getElem?_eq_some_iff.mp hi
 obtain⟨b,rfl⟩:=List.getElem?_eq_some_iff.mp hj
 exact List.pairwise_iff_getElem.mp h i j a b hij
structure TOk (t:SetTable)(led:Bool):Prop where
 inc:Inc t.place
 dum:t.dummies= #[]
 led:t.led=led
theorem TOk.fresh (f m:Nat)(led:Bool):TOk (.fresh f m led) led:=⟨List.Pairwise.nil,rfl,rfl⟩
end L2
namespace L2
open PySem PySem.Spec PyProof.Rows
theorem D0 {vs:List Value}{ms:List Int}(h:IntsAre vs ms)(k:Int):(∃v∈vs,Value.isInt k v=true)↔k∈ms:=by
 induction h with
 |nil=>simp
 |cons n t _ ih=>
  rw[List.mem_cons, ←ih]
  constructor
  ·rintro⟨v,hv,e⟩
   rcases List.mem_cons.mp hv with z |z
   ·subst z;obtain⟨t',e'⟩:=Value.isInt_shape e;cases e';exact .inl rfl
   ·exact .inr ⟨v,z,e⟩
  ·rintro(z | ⟨v,hv,e⟩)
   ·subst z;exact⟨_, .head _,beq_self_eq_true _⟩
   ·exact⟨v, .tail _ hv,e⟩
theorem G6 {vs vs':List Value}(p:vs'.Perm vs):∀{ms:List Int},IntsAre vs ms->∃ms',IntsAre vs' ms'/\ms'.Perm ms:=by
 induction p with
 |nil=>intro ms h;exact⟨ms,h, .refl _⟩
 |cons x _ ih=>
  intro ms h
  cases h with
  |cons n t h=>obtain⟨m,a,b⟩:=ih h;exact⟨n::m, .cons n t a,b.cons _⟩
 |swap x y l=>
  intro ms h
  cases h with
  |cons n t h=>cases h with
   |cons m u h=>exact⟨_, .cons m u (.cons n t h), .swap ..⟩
 |trans _ _ ih1 ih2=>
  intro ms h
  obtain⟨m,a,b⟩:=ih2 h
  obtain⟨m',a',b'⟩:=ih1 a
  exact⟨m',a',b'.trans b⟩
noncomputable def dd (l:List Int):List Int:=l.foldl step_dedup []
structure SCore (prog:Program)(w:World)(es:Array (Int×Value))(t:SetTable)(ns:List Int):Prop where
 el:ElemsOf (intKind prog w) es.toList
 pm:∃ms,IntsAre (es.toList.map (·.2)) ms/\ms.Perm ns
 sz:es.size<scanBound
 fit:t.fits es.size=true
 tok:TOk t (!w.params.followText "set-order")
noncomputable def Hz (prog:Program)(w:World)(h:Heap)(a:Addr)(ns:List Int):Prop:=
 ∃o es ep t,h.get? a=some o/\o.ExactSet/\o.data= .set es ep t/\SCore prog w es t ns
section
variable {prog:Program}{w:World}{A:Around}{E:Value->Shared->Prop}{s:Shared}{a:Addr}{ns:List Int}
theorem SCore.len {es:Array (Int×Value)}{t:SetTable}(c:SCore prog w es t ns):es.size=ns.length:=by
 obtain⟨ms,a,b⟩:=c.pm
 rw[←b.length_eq, ←IntsAre.length a,List.length_map,Array.length_toList]
theorem SCore.mem {es:Array (Int×Value)}{t:SetTable}(c:SCore prog w es t ns)(k:Int):(∃e∈es.toList,Value.isInt k e.2=true)↔k∈ns:=by
 obtain⟨ms,a,b⟩:=c.pm
 rw[←b.mem_iff, ←D0 a k]
 constructor
 ·rintro⟨e,h,z⟩;exact⟨e.2,List.mem_map_of_mem h,z⟩
 ·rintro⟨v,h,z⟩
  obtain⟨e,h1,rfl⟩:=List.mem_map.mp h
  exact⟨e,h1,z⟩
theorem SCore.perm {es es':Array (Int×Value)}{t t':SetTable}(c:SCore prog w es t ns)(p:es'.toList.Perm es.toList)(f:t'.fits es'.size=true)(k:TOk t' (!w.params.followText "set-order")):SCore prog w es' t' ns:=by
 obtain⟨ms,a,b⟩:=c.pm
 obtain⟨m,a',b'⟩:=G6 (p.map (·.2)) a
 have e:es'.size=es.size:=by rw[←Array.length_toList,p.length_eq,Array.length_toList]
 exact⟨c.el.perm p,⟨m,a',b'.trans b⟩,by rw[e];exact c.sz,f,k⟩
theorem Hz.put {h:Heap}{o:Obj}{es es':Array (Int×Value)}{ep:Nat}{t t':SetTable}(ho:h.get? a=some o)(hx:o.ExactSet)(hd:o.data= .set es ep t):
  (h.update a (Obj.putSet es' t')).get? a=some {o with data:=.set es' (ep+1) t'}/\(SCore prog w es' t' ns->Hz prog w (h.update a (Obj.putSet es' t')) a ns):=by
 have g:=Heap.get?_update_self (Obj.putSet es' t') ho (by rw[putSet_of es' t' hd];rfl)
 rw[putSet_of es' t' hd] at g
 exact⟨g,λc=>⟨_,_,_,_,g,hx,rfl,c⟩⟩
end
section
variable {prog:Program}{w:World}{A:Around}{E:Value->Shared->Prop}{s:Shared}
theorem Hz.at {h h':Heap}{a:Addr}{ns:List Int}(x:Hz prog w h a ns)(k:∀o,h.get? a=some o->h'.get? a=some o):Hz prog w h' a ns:=
 let ⟨o,es,ep,t,ho,r⟩:=x;⟨o,es,ep,t,k o ho,r⟩
end
section
variable {M:Model}{A:Around}{E:Value->Shared->Prop}{s:Shared}
end
section
variable {prog:Program}{w:World}{A:Around}{E:Value->Shared->Prop}{s:Shared}{a:Addr}{o:Obj}{es:Array (Int×Value)}{ep:Nat}{t:SetTable}
end
section
variable {prog:Program}{w:World}{A:Around}{E:Value->Shared->Prop}{s:Shared}{a I tp:Addr}{o:Obj}{es:Array (Int×Value)}{ep:Nat}{t:SetTable}{L:List (Int×Value)}
inductive SMode (w:World)(a:Addr)(es:Array (Int×Value))(ep:Nat)(t:SetTable)(tp:Addr)(L:List (Int×Value))(h:Heap)(i:Nat):Value->Prop
 |text (sl:Nat) (hT:w.params.followText "set-order" =true) (hL:L=(pickOrder (w.params.setOrder a ep) es).toList):SMode w a es ep t tp L h i (.int sl 0)
 |plain (sl:Nat) (hT:w.params.followText "set-order" =false) (hp:(!t.plain&&decide (es.size > 1))=false) (hL:L=es.toList) (hb:SetTable.below t.place sl=i):SMode w a es ep t tp L h i (.int sl 0)
 |drawn (ps:List Nat) (hg:h.get? tp=some {cls:=.type "tuple",data:=.seq (ps.map λi=>Value.int (i:Nat) 0).toArray}) (hn:ps.length=L.length) (hL:∀(i:Nat) pl,ps[i]?=some pl->L[i]?=es[pl]?):SMode w a es ep t tp L h i (.ref tp)
structure SIt (w:World)(I a:Addr)(es:Array (Int×Value))(ep:Nat)(t:SetTable)(tp:Addr)(L:List (Int×Value))(o:Obj)(i:Nat)(h:Heap):Prop where
 it:∃ob first,h.get? I=some ob/\ob.cls= .type "set_iterator" /\ob.data= .fields #[first, .int i 0, .ref a, .int es.size 0, .int ep 0]/\SMode w a es ep t tp L h i first
 st:h.get? a=some o
theorem SMode.at {h h':Heap}{i:Nat}{v:Value}(m:SMode w a es ep t tp L h i v)(k:∀o,h.get? tp=some o->h'.get? tp=some o):SMode w a es ep t tp L h' i v:=by
 cases m with
 |text sl hT hL=>exact .text sl hT hL
 |plain sl hT hp hL hb=>exact .plain sl hT hp hL hb
 |drawn ps hg hn hL=>exact .drawn ps (k _ hg) hn hL
end
section
variable {prog:Program}{w:World}{A:Around}{E:Value->Shared->Prop}{s:Shared}{a I tp:Addr}{o:Obj}{es:Array (Int×Value)}{ep:Nat}{t:SetTable}{L:List (Int×Value)}{ns:List Int}
theorem SIt.frame {i:Nat}{h h':Heap}(x:SIt w I a es ep t tp L o i h)(k:∀b∈[I,a,tp],∀o,h.get? b=some o->h'.get? b=some o):SIt w I a es ep t tp L o i h':=by
 obtain⟨⟨ob,f,h1,h2,h3,m⟩,h4⟩:=x
 exact⟨⟨ob,f,k I (by simp) _ h1,h2,h3,m.at λo e=>k tp (by simp) o e⟩,k a (by simp) _ h4⟩
end
section
variable {X:Cx}
end
section
variable {K:PySem.W.Frag}{Er:Exc->Hp->Prop}{S:SC}{OO:List (List Xr)}{σ:St}
variable {u:TS}{α γ ρ ι:Type}
variable {β:Type}{Fd:Ends->β->Hp->Prop}[fd:FdOk Fd]
noncomputable def isF:Rs Bool->Bool
 | .ok false=>true
 |_=>false
theorem EN {m:Rs Bool}(h:isF m=true):m= .ok false:=by
 cases m with
 |ok b=>cases b with
  |false=>rfl
  |true=>cases h
 |bad=>cases h
 |err x=>cases h
theorem Dr {tl:TE}{tt:TT}{tr:TS}{mt:List Int->Rs Bool}{f:List (List Int)->Rs β}{v:V}{as:List (List Int)}{C:List Xr}(j k:Nat)(n:Int)(hte:∀(H:Hp) (Q:VK),W OO H->S.p (hid H OO)->Q v H->tl σ H Q)(hjl:j<σ.length)(hk:OO[k]?=some C)(h:∀x,S.p x->oL (oL (oF Xd)) K x v as C)
  (ht:∀row x,EvT Er (S.add K (rV Xd) x row) (OO.set k []) (σ.set j (some x)) tt (mt row))
  (hr:∀C' w,Sv Er (S.addO K (oL (oL (oF Xd))) v (as.map (· ++[n])) C') (OO.set k C') (σ.set j w) u Fd (f (as.map (· ++[n])))):
  Sv Er S OO σ (ZQ (Ht (Ci K tl) (QC j) (ZQ (Eg tt tr Q9) (ZQ (UG (tBM K "list" Z4 (VM j) (XA (tC (.int n)) Zy))) Q9))) u) Fd (chk ((as.all λrow=>isF (mt row))=true/\∀row∈as,row.length<sizeLine) (f (as.map (· ++[n])))):=λH D w s P=>by
 obtain⟨⟨hall,hsz⟩,P⟩:=PZ.chk P
 obtain⟨p,xs,Cs0,e,q,c⟩:=h _ s
 subst c e
 have hkl:k<OO.length:=by
  rcases Nat.lt_or_ge k OO.length with h |h
  ·exact h
  ·rw[List.getElem?_eq_none h] at hk;cases hk
 have hin:∀{Cs:List (List Xr)},(p,HO.lst xs)∈(OO.set k ((p, .lst xs)::Cs.flatten)).flatten:=fun {Cs}=>List.mem_flatten.mpr ⟨_,List.mem_set hkl _,List.mem_cons_self⟩
 have hOO:OO.set k ((p, .lst xs)::Cs0.flatten)=OO:=by
  apply List.ext_getElem?
  intro m
  by_cases hm:m=k
  ·subst hm;rw[List.getElem?_set_self hkl,hk]
  ·rw[List.getElem?_set_ne (λe=>hm e.symm)]
 have hH:H p=some (.lst xs):=w.tr (p, .lst xs) (by rw[←hOO];exact hin)
 refine hte _ _ w s ⟨p,rfl,⟨xs,SqL.of hH⟩,?_⟩
 refine Cw (K:=K) (a:=p) (xs:=xs) (λt σ' H'=>∃ Cs wv,σ'=σ.set j wv/\W (OO.set k ((p, .lst xs)::Cs.flatten)) H'/\Xp (hid H OO) (hid H' (OO.set k ((p, .lst xs)::Cs.flatten)))/\P3 (oL (oF Xd) K (hid H' (OO.set k ((p, .lst xs)::Cs.flatten)))) xs ((as.take t).map (· ++[n])++as.drop t) Cs)
  ⟨Cs0,σ[j],by rw[List.set_getElem_self],by rw[hOO];exact w,by rw[hOO];exact Xp.refl _,by rw[hOO];simpa using q⟩
  (λt σ' H' ht r9=>by obtain⟨Cs,wv,_,w',_,_⟩:=r9;exact SqL.of (w'.tr (p, .lst xs) hin)) ?_ ?_
 ·rintro t x σ' H' hx ⟨Cs,wv,rfl,w',m',q'⟩
  have hlen:=q.len.1
  have htl:t<as.length:=by
   rw[←hlen]
   rcases Nat.lt_or_ge t xs.length with h |h
   ·exact h
   ·rw[List.getElem?_eq_none h] at hx;cases hx
  have hrow:((as.take t).map (· ++[n])++as.drop t)[t]?=some as[t]:=by
   rw[List.getElem?_append_right (by simp;omega)]
   simp[Nat.min_eq_left (Nat.le_of_lt htl)]
  obtain⟨q0,ys,g1,g2,g3⟩:=Jt q' hrow
  rw[hx] at g1
  cases g1
  have hk':(OO.set k ((p,HO.lst xs)::Cs.flatten))[k]?=some ((p,HO.lst xs)::Cs.flatten):=by simp[hkl]
  have hq0:H' q0=some (.lst ys):=w'.tr (q0, .lst ys) (List.mem_flatten.mpr ⟨_,List.mem_of_getElem? hk',List.mem_cons_of_mem _ (ZA g2 _ (by simp))⟩)
  have hsz':as[t].length<sizeLine:=hsz _ (List.getElem_mem htl)
  show ZQ _ _ _ ((σ.set j wv).set j (some (.ref q0))) H'
  have hf:mt as[t]= .ok false:=EN (List.all_eq_true.mp hall _ (List.getElem_mem htl))
  have hset:(OO.set k ((p,HO.lst xs)::Cs.flatten)).set k []=OO.set k []:=List.set_set ..
  have hp1:=XR hk'
  have wa:=w'.of (OO':=((p,HO.lst xs)::Cs.flatten)::(OO.set k ((p,HO.lst xs)::Cs.flatten)).set k []) hp1
  rw[hset] at wa
  have hnq:q0∉fl (OO.set k []):=λhb=>by
   have:=wa.nd
   rw[X6] at this
   exact(List.nodup_append.mp this).2.2 q0 (List.mem_map.mpr ⟨(q0, .lst ys),List.mem_cons_of_mem _ (ZA g2 _ (by simp)),rfl⟩) q0 hb rfl
  have hv:Xp (hid H' (OO.set k ((p,HO.lst xs)::Cs.flatten))) (hid H' (OO.set k [])):=λb o e=>by
   obtain⟨e1,e2⟩:=XW e
   refine Zm e1 λhb=>e2 ?_
   rw[←Qt hp1 b,hset,X6]
   exact List.mem_append_right _ hb
  rw[List.set_set]
  refine ht as[t] (.ref q0) H' _ wa.tail ⟨S.mono _ _ (m'.trans hv) s,q0,ys,rfl,Zm hq0 hnq,g3⟩ ?_
  rw[hf]
  intro H2 s2
  rw[if_neg Bool.false_ne_true]
  have hq0:=s2 _ _ hq0
  have m2:=Xj (OO:=OO.set k ((p,HO.lst xs)::Cs.flatten)) s2
  have q':=P3.imp (λ_ _ _ h=>MonoO.mono m2 h) q'
  have w':=w'.keep s2
  have m':=m'.trans m2
  refine⟨.ref q0,by rw[List.getElem?_set_self (by simpa using hjl)], .inl ⟨rfl,_,SqL.of hq0⟩,q0,ys, .int n,rfl,rfl,hq0,by rw[Paired.len g3];exact hsz',?_⟩
  obtain⟨C',w4,m4,o4⟩:=Vk (ys':=ys++[.int n]) (row':=as[t]++[n]) (v:=.ref p) w' hk' q' hrow hx hq0 g2 (Paired.app g3 (show Paired (Xd K (hid H2 (OO.set k ((p, .lst xs)::Cs.flatten)))) [V.int n] [n] from .cons rfl .nil))
  obtain⟨p',xs',Cs',e1,o5,rfl⟩:=o4
  cases e1
  have hc1:(p,HO.lst xs)∈(OO.set k ((p, .lst xs')::Cs'.flatten)).flatten∨xs'=xs:=by
   right
   have h1:=w4.tr (p, .lst xs') (by rw[List.set_set];exact List.mem_flatten.mpr ⟨_,List.mem_set hkl _,List.mem_cons_self⟩)
   have hpq:p≠q0:=λee=>by
    have:=(w'.of (OO':=((p,HO.lst xs)::Cs.flatten)::(OO.set k ((p,HO.lst xs)::Cs.flatten)).set k []) hp1).nd
    rw[X6,List.map_cons,List.cons_append,List.nodup_cons] at this
    exact this.1 (List.mem_append_left _ (List.mem_map.mpr ⟨(q0, .lst ys),ZA g2 _ (by simp),ee.symm⟩))
   rw[Xw hpq] at h1
   have h2:=w'.tr (p, .lst xs) hin
   rw[h1] at h2
   have h3:HO.lst xs'=HO.lst xs:=Option.some.inj h2
   injection h3
  obtain rfl:xs'=xs:=by
   rcases hc1 with h9 |h9
   ·have h1:=w4.tr (p, .lst xs') (by rw[List.set_set];exact List.mem_flatten.mpr ⟨_,List.mem_set hkl _,List.mem_cons_self⟩)
    have h2:=w4.tr (p, .lst xs) (by rw[List.set_set];exact h9)
    rw[h1] at h2
    have h3:HO.lst xs'=HO.lst xs:=Option.some.inj h2
    injection h3
   ·exact h9
  rw[List.set_set] at w4 m4 o5
  refine⟨Cs',some (.ref q0),by simp,w4,m'.trans m4,?_⟩
  have e6:((as.take t).map (· ++[n])++as.drop t).set t (as[t]++[n])=(as.take (t+1)).map (· ++[n])++as.drop (t+1):=by
   rw[List.set_append_right _ _ (by simp;omega)]
   simp only[List.length_map,List.length_take,Nat.min_eq_left (Nat.le_of_lt htl),Nat.sub_self]
   rw[List.drop_eq_getElem_cons htl,List.set_cons_zero,List.take_succ_eq_append_getElem htl,List.map_append,List.append_assoc]
   rfl
  rw[e6] at o5
  exact o5
 ·rintro σ' H' ⟨Cs,wv,rfl,w',m',q'⟩
  have hlen:=q.len.1
  rw[hlen,List.take_length,List.drop_length,List.append_nil] at q'
  exact hr _ wv H' D w' ⟨S.mono _ _ m' s,⟨p,xs,Cs,rfl,q',rfl⟩⟩ (PZ.tr (fd.tr D) m' P)
end
section
variable {α β γ:Type}
end
section
variable {K:PySem.W.Frag}{Er:Exc->Hp->Prop}{S:SC}{OO:List (List Xr)}{σ:St}{α1 α2 α3 α4 ρ:Type}{mg:Str->Option Value}{E:XK}
end
section
variable {X:Cx}{tg:Expr}
end
section
variable {K:PySem.W.Frag}{Er:Exc->Hp->Prop}{S:SC}{OO OO':List (List Xr)}{σ:St}{α β γ:Type}
theorem P3.reverse {δ:Type}{F:α->γ->δ->Prop}:∀{l m n},P3 F l m n->P3 F l.reverse m.reverse n.reverse:=λp=>by
 induction p with
 |nil=>exact .nil
 |cons r _ ih=>rw[List.reverse_cons,List.reverse_cons,List.reverse_cons];exact ih.snoc r
variable {u:TS}{Fd:Ends->β->Hp->Prop}[fd:FdOk Fd]
end
section
variable {K:PySem.W.Frag}{Er:Exc->Hp->Prop}{S:SC}{OO:List (List Xr)}{σ:St}{α β γ ι:Type}{u:TS}{Fd:Ends->β->Hp->Prop}[fd:FdOk Fd]
end
section
variable {K:PySem.W.Frag}{Er:Exc->Hp->Prop}{S:SC}{OO:List (List Xr)}{σ:St}{α β:Type}
end
noncomputable def IX (A:Around)(s:Shared)(v u:Value)(b:Bool):Prop:=
 ∀(prog:Program) (w:World) (E:Value->Shared->Prop) (Q:Value->Shared->Prop),Q (.bool b) s->wpAny (model prog w) A (richCompare .Lt v u) Q E s
structure LtOk {α:Type}(r:Enc α)(lt:α->α->Bool)(d:Nat):Prop where
 at':∀{X:Cx}{pins:List (Addr×Obj)}{σ:St}{H:Hp}{s:Shared}{x y:V}{v u:Value}{a b:α}{A:Around},Inv X pins σ H s->X8 x v->X8 y u->r X.K H x a->r X.K H y b->A.units+d<cLine->IX A s v u (lt a b)
noncomputable def ltI (a b:Int):Bool:=decide (a<b)
theorem lt_int:LtOk Xd ltI 0:=⟨fun {X pins σ H s x y v u a b A} I rx ry h1 h2 _ prog w E Q q=>by
 have e1:x=V.int a:=h1
 have e2:y=V.int b:=h2
 subst e1 e2
 obtain⟨t,rfl⟩:=rx
 obtain⟨t',rfl⟩:=ry
 exact CmpOf.ints_lt (P:=λj v=>∃ t,v= .int (if j=0 then a else b) t) (λj=>if j=0 then a else b) (λ_ _ h=>h) 0 1 _ _ _ _ _ ⟨t,rfl⟩ ⟨t',rfl⟩ q⟩
section
variable {α:Type}[DecidableEq α]{r:Enc α}{lt:α->α->Bool}{d:Nat}
theorem LtOk.imp {q:Enc α}(L:LtOk r lt d)(h:∀{K:PySem.W.Frag}{H:Hp}{v:V}{a:α},q K H v a->r K H v a):LtOk q lt d:=⟨λI rx ry h1 h2 hu=>L.at' I rx ry (h h1) (h h2) hu⟩
end
section
variable {α:Type}
noncomputable def kp (kf:Value->α)(d:α)(xs:Array Keyed)(i:Nat):α:=(xs[i]?.map λp=>kf p.1).getD d
structure Ord (lt:α->α->Bool):Prop where
 irr:∀a,lt a a=false
 tr:∀{a b c},lt a b=true->lt b c=true->lt a c=true
structure SB (κ:SortKind)(a0:Array Keyed)(st:SortSt):Prop where
 perm:(arrOf st).Perm a0
 kind:kindOf st=κ
 failed:failedOf st=none
 pend:pendingOf st= #[]
theorem SB.size {κ:SortKind}{a0:Array Keyed}{st:SortSt}(h:SB κ a0 st):(arrOf st).size=a0.size:=h.perm.size_eq
structure Asks (prog:Program)(w:World)(A:Around)(E:Value->Shared->Prop)(s:Shared)(κ:SortKind)(lt:α->α->Bool)(kf:Value->α)(d:α)(a0:Array Keyed):Prop extends Ord lt where
 ask:∀{st:SortSt}{i j:Nat}{Q:Option Bool->SortSt->Prop},SB κ a0 st->i<a0.size->j<a0.size->Q (some (lt (kp kf d (arrOf st) i) (kp kf d (arrOf st) j))) st->wpS (model prog w) A E s (ltAt' i j) Q st
 two:∀{st:SortSt}{i j:Nat},SB κ a0 st->i<a0.size->j<a0.size->i≠j->lt (kp kf d (arrOf st) i) (kp kf d (arrOf st) j)=true∨lt (kp kf d (arrOf st) j) (kp kf d (arrOf st) i)=true
variable {prog:Program}{w:World}{A:Around}{E:Value->Shared->Prop}{s:Shared}{κ:SortKind}{lt:α->α->Bool}{kf:Value->α}{d:α}{a0:Array Keyed}
noncomputable def Ris (lt:α->α->Bool)(k:Nat->α)(n:Nat):Prop:=∀ i j,i<j->j<n->lt (k i) (k j)=true
noncomputable def Fal (lt:α->α->Bool)(k:Nat->α)(n:Nat):Prop:=∀ i j,i<j->j<n->lt (k j) (k i)=true
theorem Ris.more (O:Ord lt){k:Nat->α}{n:Nat}(h:Ris lt k n)(q:0<n->lt (k (n-1)) (k n)=true):Ris lt k (n+1):=λi j hij hj=>by
 rcases Nat.lt_or_ge j n with z |z
 ·exact h i j hij z
 ·have e:j=n:=by omega
  subst e
  rcases Nat.lt_or_ge i (j-1) with y |y
  ·exact O.tr (h i (j-1) y (by omega)) (q (by omega))
  ·rw[show i=j-1 by omega];exact q (by omega)
theorem Fal.more (O:Ord lt){k:Nat->α}{n:Nat}(h:Fal lt k n)(q:0<n->lt (k n) (k (n-1))=true):Fal lt k (n+1):=λi j hij hj=>by
 rcases Nat.lt_or_ge j n with z |z
 ·exact h i j hij z
 ·have e:j=n:=by omega
  subst e
  rcases Nat.lt_or_ge i (j-1) with y |y
  ·exact O.tr (q (by omega)) (h i (j-1) y (by omega))
  ·rw[show i=j-1 by omega];exact q (by omega)
theorem Asks.other (L:Asks prog w A E s κ lt kf d a0){st:SortSt}{i j:Nat}(B:SB κ a0 st)(hi:i<a0.size)(hj:j<a0.size)(n:i≠j)(h:lt (kp kf d (arrOf st) i) (kp kf d (arrOf st) j)=false):lt (kp kf d (arrOf st) j) (kp kf d (arrOf st) i)=true:=(L.two B hi hj n).resolve_left (by rw[h];decide)
end
section
variable {α β γ:Type}
theorem G7 {f:α->β}{l' k:List β}(h:l'.Perm k):∀{l:List α},k=l.map f->∃m:List α,m.Perm l/\m.map f=l':=by
 induction h with
 |nil=>intro l e;cases l with
  |nil=>exact⟨[], .nil,rfl⟩
  |cons a l=>cases e
 |cons x _ ih=>intro l e;cases l with
  |nil=>cases e
  |cons a l=>
   injection e with e1 e2
   obtain⟨m,hm,em⟩:=ih e2
   exact⟨a::m,hm.cons a,by rw[List.map_cons,em,e1]⟩
 |swap x y t=>intro l e;cases l with
  |nil=>cases e
  |cons a l=>cases l with
   |nil=>cases e
   |cons b l=>
    injection e with e1 e2
    injection e2 with e2 e3
    exact⟨b::a::l, .swap ..,by rw[List.map_cons,List.map_cons,e1,e2,e3]⟩
 |trans _ _ ih1 ih2=>
  intro l e
  obtain⟨m2,h2,e2⟩:=ih2 e
  obtain⟨m1,h1,e1⟩:=ih1 e2.symm
  exact⟨m1,h1.trans h2,e1⟩
section
variable [DecidableEq α]{lt:α->α->Bool}
end
end
section
variable {prog:Program}{w:World}{A:Around}{E:Value->Shared->Prop}{s:Shared}{α:Type}
noncomputable def mid (h:Heap)(a:Addr)(vs:List Value):Heap:=((h.update a (Obj.mapSeq λ_=>#[])).push (seqObj "tuple" vs.toArray 0)).push (seqObj "list" #[] 0)
end
section
variable {X:Cx}{β:Type}[DecidableEq β]{r:Enc β}{lt:β->β->Bool}{d:Nat}
end
section
variable {X:Cx}{α:Type}
end
section
variable {K:PySem.W.Frag}{Er:Exc->Hp->Prop}{S:SC}{OO OO':List (List Xr)}{σ:St}{α β γ δ:Type}
theorem P3.tri {F:α->β->γ->Prop}:∀{l m n},P3 F l m n->∃T:List (α×β×γ),T.map (·.1)=l/\T.map (·.2.1)=m/\T.map (·.2.2)=n/\∀t∈T,F t.1 t.2.1 t.2.2:=λp=>by
 induction p with
 |nil=>exact⟨[],rfl,rfl,rfl,λt h=>nomatch h⟩
 |cons r _ ih=>
  obtain⟨T,e1,e2,e3,h⟩:=ih
  exact⟨(_,_,_)::T,by rw[List.map_cons,e1],by rw[List.map_cons,e2],by rw[List.map_cons,e3],λt ht=>(List.mem_cons.mp ht).elim (λz=>z▸r) (h t)⟩
theorem P3.oft {F:α->β->γ->Prop}:∀{T:List (α×β×γ)},(∀t∈T,F t.1 t.2.1 t.2.2)->P3 F (T.map (·.1)) (T.map (·.2.1)) (T.map (·.2.2)):=fun {T}=>by
 induction T with
 |nil=>intro _;exact .nil
 |cons t T ih=>intro h;exact .cons (h t List.mem_cons_self) (ih λu hu=>h u (List.mem_cons_of_mem _ hu))
theorem B5 {a a':List α}{b b':List β}(h:a.zip b=a'.zip b')(h1:a.length=b.length)(h2:a'.length=b'.length):a=a'/\b=b':=by
 have e1:=congrArg (List.map Prod.fst) h
 have e2:=congrArg (List.map Prod.snd) h
 rw[List.map_fst_zip (by omega),List.map_fst_zip (by omega)] at e1
 rw[List.map_snd_zip (by omega),List.map_snd_zip (by omega)] at e2
 exact⟨e1,e2⟩
theorem P3.perm {F:α->β->γ->Prop}{l zs:List α}{m bs:List β}{n:List γ}(p:P3 F l m n)(h:(zs.zip bs).Perm (l.zip m))(hl:zs.length=bs.length):∃n',P3 F zs bs n'/\n'.Perm n:=by
 obtain⟨T,e1,e2,e3,hT⟩:=p.tri
 have ez:T.map (λt=>(t.1,t.2.1))=l.zip m:=by rw[←e1, ←e2,List.zip_map']
 obtain⟨T',hp,e⟩:=G7 h ez.symm
 have:(T'.map (·.1)).zip (T'.map (·.2.1))=zs.zip bs:=by rw[List.zip_map'];exact e
 obtain⟨f1,f2⟩:=B5 this (by simp) hl
 refine⟨T'.map (·.2.2),?_,by rw[←e3];exact hp.map _⟩
 rw[←f1, ←f2]
 exact P3.oft λt ht=>hT t (hp.mem_iff.mp ht)
end
section
variable {K:PySem.W.Frag}{Er:Exc->Hp->Prop}{S:SC}{OO OO':List (List Xr)}{σ:St}{α β:Type}{u:TS}{Fd:Ends->β->Hp->Prop}[fd:FdOk Fd]
end
section
variable {K:PySem.W.Frag}{Er:Exc->Hp->Prop}{S:SC}{OO OO':List (List Xr)}{σ:St}{α1 α2 β ρ:Type}{u:TS}
theorem W.one {H:Hp}(w:W OO H):W [OO.flatten] H:=w.of (by simp)
end
section
variable {K:PySem.W.Frag}{Er:Exc->Hp->Prop}{S:SC}{OO OO':List (List Xr)}{σ:St}{α α2 β γ ρ:Type}
variable {Fd:Ends->β->Hp->Prop}[fd:FdOk Fd]{u:TS}
end
section
variable {prog:Program}{w:World}{A:Around}{E:Value->Shared->Prop}{s:Shared}
end
section
variable {X:Cx}
end
section
variable {K:PySem.W.Frag}{Er:Exc->Hp->Prop}{S:SC}{OO OO':List (List Xr)}{σ:St}{α β γ:Type}
end
section
variable {X:Cx}{α:Type}{r:Enc α}{lt:α->α->Bool}{d:Nat}
end
section
variable {K:PySem.W.Frag}{Er:Exc->Hp->Prop}{S:SC}{OO OO':List (List Xr)}{σ:St}{α:Type}
end
section
variable {X:Cx}{pins:List (Addr×Obj)}{σ:St}{H:Hp}{s0:Shared}
noncomputable def BZ (X:Cx)(g:Heap)(d:Addr)(xs:List (List Key×Addr×Value)):Prop:=∃ o es ep,g.get? d=some o/\o.ExactDict/\o.data= .dict es ep/\es.toList=xs.map (entryOfKey (tupleKind (Za X.prog X.w)))/\(xs.map (·.1)).Nodup
theorem BZ.h {g:Heap}{tk:Nat}{d:Addr}{acc:List (List Key×V)}{xs:List (List Key×Addr×Value)}(D:BZ X g d xs)(I:Inv X pins σ H {s0 with heap:=g,toks:=tk})(r:KT H acc xs):g.DictOfH (tupleKind (Za X.prog X.w)) d xs:=by
 obtain⟨o,es,ep,h1,h2,h3,h4,h5⟩:=D
 refine⟨o,es,ep,h1,h2,h3,h4,λx hx=>?_,h5⟩
 have all:∀{l:List (List Key×V)}{m:List (List Key×Addr×Value)},KT H l m->∀x∈m,(tupleKind (Za X.prog X.w)).is g x.1 x.2.1:=by
  intro l m q
  induction q with
  |nil=>intro x hx;exact nomatch hx
  | @cons p q ps qs hq t ih=>
   intro x hx
   rcases List.mem_cons.mp hx with e |hx
   ·subst e
    exact Hy I.hok (by rw[←hq.1];exact hq.2.1)
   ·exact ih x hx
 exact all r x hx
theorem BZ.of {g:Heap}{d:Addr}{xs:List (List Key×Addr×Value)}(D:g.DictOfH (tupleKind (Za X.prog X.w)) d xs):BZ X g d xs:=by
 obtain⟨o,es,ep,h1,h2,h3,h4,_,h5⟩:=D
 exact⟨o,es,ep,h1,h2,h3,h4,h5⟩
theorem BZ.at {g g':Heap}{d:Addr}{xs:List (List Key×Addr×Value)}(D:BZ X g d xs)(k:∀o,g.get? d=some o->g'.get? d=some o):BZ X g' d xs:=by
 obtain⟨o,es,ep,h1,r⟩:=D
 exact⟨o,es,ep,k o h1,r⟩
end
section
variable {K:PySem.W.Frag}{Er:Exc->Hp->Prop}{S:SC}{OO OO':List (List Xr)}{σ:St}{α β γ:Type}
end
section
variable {K:PySem.W.Frag}{Er:Exc->Hp->Prop}{S:SC}{OO:List (List Xr)}{σ:St}{α1 α2 α3 α4 α5 ρ:Type}{mg:Str->Option Value}{E:XK}
end
section
variable {X:Cx}{o e:Expr}{es:List Expr}{to:TE}{t:TA}{name:Str}{apos cpos:Pos}{id:String}{r:V->List V->Hp->VK->Prop}
end
section
variable {K:PySem.W.Frag}{Er:Exc->Hp->Prop}{S:SC}{OO:List (List Xr)}{σ:St}
end
section
variable {α β γ δ:Type}{K:PySem.W.Frag}{Er:Exc->Hp->Prop}{S:SC}{OO:List (List Xr)}{σ:St}{Fd:Ends->β->Hp->Prop}[fd:FdOk Fd]{u:TS}
end
end L2
namespace HT
open PySem PySem.Spec PyProof PyProof.Rows
section
variable {prog:Program}{w:World}{A:Around}{E:Value->Shared->Prop}{s:Shared}
end
end HT
namespace L2
open PySem PySem.Spec PyProof.Rows
section
variable {X:Cx}{e:Expr}{te:TE}
end
section
variable {α β:Type}{K:PySem.W.Frag}{Er:Exc->Hp->Prop}{S:SC}{OO:List (List Xr)}{σ:St}
end
section
variable {α β:Type}{K:PySem.W.Frag}{Er:Exc->Hp->Prop}{S:SC}{OO:List (List Xr)}{σ:St}{Fd:Ends->β->Hp->Prop}[fd:FdOk Fd]{u:TS}
end
section
variable {K:PySem.W.Frag}{Er:Exc->Hp->Prop}{S:SC}{OO OO' OO2:List (List Xr)}{σ:St}{α β γ ρ ι:Type}{mg:Str->Option Value}{E:XK}{u:TS}
end
section
variable {α:Type}
structure SBk (κ:SortKind)(a₀:Array Keyed)(st:SortSt):Prop where
 perm:(arrOf st).Perm a₀
 kind:kindOf st=κ
 failed:failedOf st=none
 pend:pendingOf st= #[]
theorem SBk.size {κ:SortKind}{a₀:Array Keyed}{st:SortSt}(h:SBk κ a₀ st):(arrOf st).size=a₀.size:=h.perm.size_eq
structure AskK (prog:Program)(w:World)(A:Around)(E:Value->Shared->Prop)(s:Shared)(lt:α->α->Bool)(kf:Value->α)(d:α)(a0:Array Keyed)(κ:SortKind):Prop extends Ord lt where
 ask:∀{st:SortSt}{i j:Nat}{Q:Option Bool->SortSt->Prop},SBk κ a0 st->i<a0.size->j<a0.size->Q (some (lt (kp kf d (arrOf st) i) (kp kf d (arrOf st) j))) st->wpS (model prog w) A E s (ltAt' i j) Q st
 two:∀{st:SortSt}{i j:Nat},SBk κ a0 st->i<a0.size->j<a0.size->i≠j->lt (kp kf d (arrOf st) i) (kp kf d (arrOf st) j)=true∨lt (kp kf d (arrOf st) j) (kp kf d (arrOf st) i)=true
variable {prog:Program}{w:World}{A:Around}{E:Value->Shared->Prop}{s:Shared}{lt:α->α->Bool}{kf:Value->α}{d:α}{a0:Array Keyed}{κ:SortKind}
theorem AskK.other (L:AskK prog w A E s lt kf d a0 κ){st:SortSt}{i j:Nat}(B:SBk κ a0 st)(hi:i<a0.size)(hj:j<a0.size)(n:i≠j)(h:lt (kp kf d (arrOf st) i) (kp kf d (arrOf st) j)=false):lt (kp kf d (arrOf st) j) (kp kf d (arrOf st) i)=true:=(L.two B hi hj n).resolve_left (by rw[h];decide)
end
section
variable {prog:Program}{w:World}{A:Around}{E:Value->Shared->Prop}{s:Shared}{α:Type}
end
section
variable {X:Cx}
end
section
variable {prog:Program}{w:World}{A:Around}{E:Value->Shared->Prop}{s:Shared}
end
section
variable {X:Cx}{o:Expr}{lo hi:Option Expr}{pos p2:Pos}{to:TE}{tl th:TO}
end
section
variable {X:Cx}{pins:List (Addr×Obj)}{σ:St}{H G:Hp}{s:Shared}{h':Heap}
end
section
variable {X:Cx}{l:Expr}{tl:TE}{pos npos apos cpos:Pos}
end
section
variable {X:Cx}
end
inductive Mx where
 |i (n:Int) |s (x:Str) |b (v:Bool)
 deriving DecidableEq
noncomputable def Mx.v:Mx->V
 | .i n=>.int n
 | .s x=>.str x
 | .b v=>.bl v
section
variable {K:PySem.W.Frag}{Er:Exc->Hp->Prop}{S:SC}{OO OO' OO1 OO2 OO3:List (List Xr)}{σ:St}{α β γ δ ρ:Type}{u:TS}
end
section
variable {K:PySem.W.Frag}{Er:Exc->Hp->Prop}{S:SC}{OO OO' OO1 OO2 OO3:List (List Xr)}{σ:St}{α β γ δ ρ ι:Type}{α1 α2 α3 α4 α5:Type}{u:TS}
variable {Fd:Ends->β->Hp->Prop}[fd:FdOk Fd]
theorem EvP.st {t:TO}{m:Rs (Option Int)}(he:EvP Er S OO σ t m){H:Hp}{D:Ends}{Q:Option Int->Hp->Prop}(w:W OO H)(s:S.p (hid H OO)){f:Option Int->Rs β}(P:PZ Er (Fd D) (hid H OO) (m.bind f))
  (hk:∀a H',Xp H H'->W OO H'->S.p (hid H' OO)->PZ Er (Fd D) (hid H' OO) (f a)->Q a H'):t σ H Q:=by
 refine he H Q w s ?_
 cases m with
 |bad=>exact P
 |err x=>exact λH' s'=>P H' (XD.trans s')
 |ok a=>exact λH' s'=>hk a H' s' (w.keep s') (S.mono _ _ (Xj s') s) (PZ.tr (fd.tr D) (Xj s') P)
section
variable {o:OE ρ}{kf:Nat}{Cf:List Xr}{J:Jn γ ι}
end
end
section
variable {K:PySem.W.Frag}{Er:Exc->Hp->Prop}{S:SC}{OO:List (List Xr)}{σ:St}{α β γ ρ ι:Type}{u:TS}{Fd:Ends->β->Hp->Prop}[fd:FdOk Fd]
end
section
variable {K:PySem.W.Frag}{Er:Exc->Hp->Prop}{S:SC}{OO OO':List (List Xr)}{σ:St}{α1 α2 α3 β ρ:Type}{u:TS}
end
noncomputable def TrD (h base:Heap)(e:Addr)(cls:Value)(od:Option Addr)(fl:Value):Prop:=
 ∃oe vs T oT ts,h.get? e=some oe/\(oe.cls=cls/\oe.dict=od)/\oe.data= .fields vs/\vs[1]?=some (.ref T)/\base.get? T=none/\T≠e/\h.get? T=some oT/\oT.data= .fields ts/\ts[3]?=some fl
structure FyD (base:Heap)(l:List Env)(e:Addr)(cls:Value)(od:Option Addr)(fl:Value)(h:Heap):Prop where
 stay:base.StaysIn h
 new:base.get? e=none
 frames:h.FunFrames base l
 tr:TrD h base e cls od fl
section
variable {M:Model}{A:Around}{E:Value->Shared->Prop}{s:Shared}{base:Heap}{env:Env}{outer l:List Env}{L e:Addr}{oe:Obj}{vs:Array Value}{head cls fl:Value}{od:Option Addr}{Q:Unit->Shared->Prop}
end
structure FlD (h0 h:Heap)(H:Hp)(a T:Addr)(cls:Value)(od:Option Addr):Prop where
 na:h0.get? a=none
 nT:h0.get? T=none
 fa:H a=none
 fT:H T=none
 ne:T≠a
 obj:∃oe vs oT ts,h.get? a=some oe/\(oe.cls=cls/\oe.dict=od)/\oe.data= .fields vs/\vs[1]?=some (.ref T)/\h.get? T=some oT/\oT.data= .fields ts/\ts[3]?=some Value.none
section
variable {P:Program}{w:World}{h0 h h' base:Heap}{H:Hp}{a T:Addr}{cls:Value}{od:Option Addr}{l:List Env}
theorem FlD.fly (x:FlD h0 h H a T cls od)(hl:h.FunFrames base l):FyD (Dn h (frs l) a T) l a cls od .none h:=by
 obtain⟨oe,vs,oT,ts,ha,hc,hd,h1,hT,hdT,h3⟩:=x.obj
 exact⟨λb o e=>(Vf e).1,Zd (.inr (.inl rfl)),VL hl λb hb=>Zd (.inl hb),oe,vs,T,oT,ts,ha,hc,hd,h1,Zd (.inr (.inr rfl)),x.ne,hT,hdT,h3⟩
theorem FlD.after (x:FlD h0 h H a T cls od)(hl:h.FunFrames base l)(hfn:∀b∈frs l,H b=none)(hok:HOk P w H h)(th:∀b o,h0.get? b=some o->∃o',h.get? b=some o')
  (fy:FyD (Dn h (frs l) a T) l a cls od .none h')(up:h.UpToSlots h'):∃T',FlD h0 h' H a T' cls od/\HOk P w H h'/\Un (frs l) [a,T] H H h h':=by
 obtain⟨st,_,_,oe,vs,T',oT,ts,ha,hc,hd,h1,hnT,hne,hT,hdT,h3⟩:=fy
 have key:T'=T∨h.get? T'=none:=by
  cases q:h.get? T' with
  |none=>exact .inr rfl
  |some o=>
   by_cases hf:T'∈frs l
   ·obtain⟨_,o2,ho2,hd2⟩:=hl.mem hf
    obtain⟨sl,e2⟩:=up T' o2 ho2 hd2
    rw[hT] at e2;cases e2
    exact absurd hdT (hd2 ts)
   ·by_cases hz:T'=T
    ·exact .inl hz
    ·rw[ZR q hf hne hz] at hnT;cases hnT
 have keep:∀b o,b∉frs l->b≠a->b≠T->h.get? b=some o->h'.get? b=some o:=λb o n1 n2 n3 e=>st b o (ZR e n1 n2 n3)
 refine⟨T',⟨x.na,?_,x.fa,?_,hne,oe,vs,oT,ts,ha,hc,hd,h1,hT,hdT,h3⟩,hok.traced hfn x.fa x.fT keep,Un.traced hl keep up⟩
 ·rcases key with e |e
  ·rw[e];exact x.nT
  ·cases q:h0.get? T' with
   |none=>rfl
   |some o=>obtain⟨o',e'⟩:=th _ _ q;rw[e] at e';cases e'
 ·rcases key with e |e
  ·rw[e];exact x.fT
  ·exact hok.un0 e
end
section
variable {P:Program}{w:World}{K:PySem.W.Frag}{mg:Str->Option Value}{base:Heap}{N:List Str}{qual:Str}{scope:Scope}{f:Addr}{cd:Value}{A:Around}{outer:List Env}{s0:Shared}{H0:Hp}{E:XK}
end
section
variable {X:Cx}{k j:Nat}{x:Str}{ps:List Str}{sp:Sp}{e:Expr}{es:List Expr}{t:TA}{p pos:Pos}{E:XK}
end
end L2
namespace L2
open PySem PySem.Spec PyProof.Rows PySem.W PySem.Builtin PySem.Builtin.ObjectAttr
section
variable {prog:Program}{w:World}{A:Around}{E:Value->Shared->Prop}{K:Frag}{x C P:Addr}{s:Shared}{cd:ClassData}{vs:Array Value}{sl:Array (Option Value)}{name:Str}{v:Value}
theorem getD {expr:Bool}{Q:Value->Shared->Prop}{dx:Addr}{mA:Str->Option Value}(X:K.In s.heap)(hx:s.heap.get? x=some ⟨.ref C,some dx, .fields vs,sl⟩)(hns:s.heap.Ns1 dx mA)(hv:mA name=some v)(hh:handedIn v=true)
  (ga:findIn K (.ref C) "__getattribute__" =some (some (.builtin "BaseException.__getattribute__")))(gh:findIn K (.ref C) "__getattr__" =some none)(mb:mroIn K C (.type "BaseException")=some true)(hd:hasDictIn K C=true)(hn:findIn K (.ref C) name=some none)
  (h:Q v {s with toks:=s.toks+1}):wpAny (model prog w) A (getAttr (.ref x) name expr) Q E s:=by
 obtain⟨hh',g,d,t,os⟩:=s
 obtain⟨oD,es,ep,hoD,hdD,hks,hnd,hfi⟩:=id hns
 have I:InstAt hh' x ⟨.ref C,some dx, .fields vs,sl⟩ C (some oD):=⟨hx,rfl,rfl,hoD⟩
 have hl:lookIn name oD=some (some v):=by
  unfold lookIn
  rw[hdD]
  have q:=hfi name
  rw[hv] at q
  unfold nsFind findBy at q
  rw[←Array.find?_toList] at q
  dsimp only
  cases z:List.find? (λx=>x.key.isStr name) es.toList with
  |none=>rw[z] at q;cases q
  |some en=>rw[z] at q;exact congrArg some q
 have L0:=I.type (M:=model prog w)
 have L1:=looks_findIn (M:=model prog w) X ga
 have L2:=looks_findIn (M:=model prog w) X gh
 have LB:=looks_mroIn (M:=model prog w) X mb
 have LF:=looks_find (M:=model prog w) X I (findObj_own hd hn rfl hl)
 have f3:=PySem.F.attr_ValueError.ga.bind (.ref x)
 have hx2:(Value.builtin "BaseException.__getattribute__" ==Value.builtin "object.__getattribute__")=false:=by decide+kernel
 unfold getAttr getAttrBy
 refine wpAny_bind (wpAny_mkText (wpAny_holding (wpAny_bind (L0.at (wpAny_bind (L1.at ?_))))))
 dsimp only
 rw[hx2,Bool.and_false,if_neg Bool.false_ne_true]
 unfold getAttrByItsOwn hookBefore callGetattribute boundAndCalled
 refine wpAny_bind (L2.at ?_)
 have hx0:(expr&&onTheHeap (Value.builtin "BaseException.__getattribute__"))=false:=by cases expr<;> rfl
 refine wpAny_bind (wpAny_attempt (wpAny_holding ?_))
 rw[hx0,if_neg Bool.false_ne_true,f3]
 refine wpAny_bind (wpAny_pure ?_)
 refine wpAny_call (codeAny_call_builtin PySem.F.attr_ValueError.ga.plain PySem.F.entry_bexc_ga ?_)
 have hk:builtinKind "BaseException.__getattribute__" =some .slot:=by decide+kernel
 have hsplit:splitId "BaseException.__getattribute__" =some ("BaseException","__getattribute__"):=by decide+kernel
 have ha:=PySem.F.args_bexc_ga (.ref x) (Value.str name t)
 simp only[checkBuiltinCall,hk,hsplit]
 unfold isInstance
 refine wpAny_bind (wpAny_bind (L0.at ?_))
 refine LB.at ?_
 rw[if_neg (by decide)]
 have fin:∀s1:Shared,s1=⟨hh',g,d,t+1,os⟩->wpAny (model prog w) A.in1 («object.__getattribute__» {pos:=[Value.ref x]++[Value.str name t]}) (λfin s'=>match fin with | .done (.ret u)=>u=v/\s'=s1 |_=>False) (λ_ _=>False) s1:=by
  intro s1 hs1
  subst hs1
  unfold «object.__getattribute__» bindTo
  repeat (any_goals lk)
  exact⟨rfl,rfl⟩
 unfold argsOk at ha
 have sg2:∀sig,Manifest.signature? "BaseException.__getattribute__" =some sig->Bind.checkArgs "BaseException.__getattribute__" sig {pos:=[Value.ref x,Value.str name t]}=pure ():=λsig e=>by
  rw[e] at ha
  exact ha
 have Y3:∀{P:Unit->Shared->Prop}{E':Value->Shared->Prop}{s1:Shared},P () s1->wpAny (model prog w) A.in1 (match Manifest.signature? "BaseException.__getattribute__" with |some sig=>Bind.checkArgs "BaseException.__getattribute__" sig {pos:=[Value.ref x]++[Value.str name t]} |_=>pure ()) P E' s1:=fun {P E' s1} p=>by
  split
  ·rename_i sig e
   rw[show[Value.ref x]++[Value.str name t]=[Value.ref x,Value.str name t] from rfl,sg2 sig e]
   exact wpAny_pure p
  ·exact wpAny_pure p
 refine Y3 ?_
 refine wpAny_mono (fin _ rfl) (λfi s' z=>?_) λ_ _ z=>z.elim
 rcases fi with(_ |_ |_ |u) |_
 all_goals first |exact z.elim |skip
 obtain⟨rfl,rfl⟩:=z
 show wpAny _ _ (handedOut _) _ _ _
 rw[handedOut_of hh]
 exact wpAny_pure h
end
section
variable {prog:Program}{w:World}{A:Around}{E:Value->Shared->Prop}{h:Heap}{g:Array GenState}{d:Drawn}{t:Nat}{os:OsState}
variable {nm q:Str}{C N:Addr}{bs bm bmB:List Value}{hdct:Bool}{sn:List Str}{sub:List Value}{ab:Bool}{col:Option Bool}{dd:Option Addr}{k0 k1 k2 k3 k5:Option Value}
end
noncomputable def rem (H:Hp)(e:Addr):Hp:=λb=>if b=e then none else H b
section
variable {P:Program}{w:World}{fs ex:List Addr}{H:Hp}{h h':Heap}{a e dx:Addr}{o o1 o2:HO}{φ:Heap->Prop}
theorem Un.put (k:∀b u,h.get? b=some u->h'.get? b=some u)(hn:h.get? a=none)(hH:H a=none):Un fs ex H (upd H a o) h h' where
 keep:=λb o e _ _ _=>k b o e
 slot:=λb o e _ _ _=>⟨o.slots,k b o e⟩
 free:=λb o e n _=>by rw[Xw (λz=>by rw[z,hn] at e;cases e)];exact n
 there:=λb o e _=>⟨o,k b o e⟩
 tups:=λb xs q=>by rw[Xw (XC q hH)];exact q
 frzs:=λb o xs q=>by rw[Xw (XC q hH)];exact q
 tbls:=λb ps q=>⟨#[],by rw[Xw (XC q hH)];simpa using q⟩
theorem HOk.put (x:HOk P w H h)(k:∀b u,h.get? b=some u->h'.get? b=some u)(hn:H a=none)(new:YU P w (upd H a o) h' a o):HOk P w (upd H a o) h':=λb u e=>by
 by_cases hb:b=a
 ·subst hb;rw[Yf] at e;cases e;exact new
 ·rw[Xw hb] at e
  exact(x b u e).stay (λc v _ q=>k c v q) (λc q=>by rw[Xw (XC q hn)];exact q) λc xs q=>by rw[Xw (XC q hn)];exact q
theorem Un.store (he:H e=some (.ext φ))(k:∀b u,b≠e->h.get? b=some u->h'.get? b=some u)(heo:∃u,h'.get? e=some u)(hn:h.get? dx=none)(hH:H dx=none):Un fs ex H (upd (upd H dx o1) e o2) h h':=by
 have ne:∀b u,H b=some u->(∀φ,u≠ .ext φ)->b≠e:=λb u q n z=>by rw[z,he] at q;cases q;exact n _ rfl
 have n0:∀b,H b=none->b≠e:=λb q z=>by rw[z,he] at q;cases q
 have two:∀b u,H b=some u->(∀φ,u≠ .ext φ)->upd (upd H dx o1) e o2 b=some u:=λb u q n=>by rw[Xw (ne b u q n),Xw (XC q hH)];exact q
 exact{
  keep:=λb o e n _ _=>k b o (n0 b n) e
  slot:=λb o e n _ _=>⟨o.slots,k b o (n0 b n) e⟩
  free:=λb o e n _=>by rw[Xw (n0 b n),Xw (λz=>by rw[z,hn] at e;cases e)];exact n
  there:=λb o q _=>by
   by_cases z:b=e
   ·rw[z];exact heo
   ·exact⟨o,k b o z q⟩
  tups:=λb xs q=>two b _ q λ_ z=>nomatch z
  frzs:=λb o xs q=>two b _ q λ_ z=>nomatch z
  tbls:=λb ps q=>⟨#[],by rw[two b _ q λ_ z=>nomatch z];simp⟩}
theorem HOk.store (x:HOk P w H h)(he:H e=some (.ext φ))(k:∀b u,b≠e->h.get? b=some u->h'.get? b=some u)(hH:H dx=none)(n1:YU P w (upd (upd H dx o1) e o2) h' dx o1)(n2:YU P w (upd (upd H dx o1) e o2) h' e o2):HOk P w (upd (upd H dx o1) e o2) h':=λb u q=>by
 have ne:∀b u,H b=some u->(∀φ,u≠ .ext φ)->b≠e:=λb u q n z=>by rw[z,he] at q;cases q;exact n _ rfl
 by_cases hb:b=e
 ·subst hb;rw[Yf] at q;cases q;exact n2
 ·rw[Xw hb] at q
  by_cases hd:b=dx
  ·subst hd;rw[Yf] at q;cases q;exact n1
  ·rw[Xw hd] at q
   refine(x b u q).stay (λc v hc z=>k c v ?_ z) (λc z=>by rw[Xw (ne c _ z λ_ y=>nomatch y),Xw (XC z hH)];exact z) λc xs z=>by rw[Xw (ne c _ z λ_ y=>nomatch y),Xw (XC z hH)];exact z
   rcases hc with z |z
   ·rw[z];exact hb
   ·exact ne c _ z λ_ y=>nomatch y
theorem Un.drop (he:H e=some (.ext φ)):Un fs ex H (rem H e) h h:=by
 have two:∀b u,H b=some u->(∀φ,u≠ .ext φ)->rem H e b=some u:=λb u q n=>by
  unfold rem
  rw[if_neg (λz=>by rw[z,he] at q;cases q;exact n _ rfl)];exact q
 exact{
  keep:=λb o e _ _ _=>e
  slot:=λb o e _ _ _=>⟨o.slots,e⟩
  free:=λb o _ n _=>by unfold rem;split<;> first |rfl |exact n
  there:=λb o e _=>⟨o,e⟩
  tups:=λb xs q=>two b _ q λ_ z=>nomatch z
  frzs:=λb o xs q=>two b _ q λ_ z=>nomatch z
  tbls:=λb ps q=>⟨#[],by rw[two b _ q λ_ z=>nomatch z];simp⟩}
theorem HOk.drop (x:HOk P w H h)(he:H e=some (.ext φ)):HOk P w (rem H e) h:=λb u q=>by
 unfold rem at q
 split at q
 ·cases q
 ·have two:∀b u,H b=some u->(∀φ,u≠ .ext φ)->rem H e b=some u:=λb u q n=>by
   unfold rem
   rw[if_neg (λz=>by rw[z,he] at q;cases q;exact n _ rfl)];exact q
  exact(x b u q).stay (λc v _ z=>z) (λc z=>two c _ z λ_ y=>nomatch y) λc xs z=>two c _ z λ_ y=>nomatch y
end
structure ExI (K:Frag)(C P fI:Addr)(f:Str):Prop where
 cls:∃nm q N bs sn sub ab col dd k0 k1 k2 k3 k5,K.lookup C=some (excClassObj nm q C N bs (.ref P::vEr) true sn sub ab col dd k0 k1 k2 k3 k5 "ValueError.__new__")
 par:excIn K P vEr "ValueError.__new__" =true
 sa:findIn K (.ref C) "__setattr__" =some (some (.builtin "object.__setattr__"))
 no:findIn K (.ref C) f=some none
 ini:findIn K (.ref C) "__init__" =some (some (.ref fI))
 fn:isFn K (.ref fI)=true
theorem ExI.cd {K:Frag}{C P fI:Addr}{f:Str}(Y:ExI K C P fI f):∃cd,clsIn K C=some cd/\cd.mro= .ref C:: .ref P::vEr/\cd.hasDict=true:=by
 obtain⟨nm,q,N,bs,sn,sub,ab,col,dd,k0,k1,k2,k3,k5,h⟩:=Y.cls
 unfold clsIn
 rw[h]
 exact⟨_,rfl,rfl,rfl⟩
theorem ExI.tail {K:Frag}{C P fI:Addr}{f:Str}{h:Heap}(Y:ExI K C P fI f)(X:K.In h):OwnTail h vEr (.ref P::vEr):=by
 obtain⟨bm,N,nm,q,bs,hdct,sn,sub,ab,col,dd,k0,k1,k2,k3,k5,mN,hC,hN,hni,T⟩:=Fx X Y.par
 exact .own hC hN hni .base
section
variable {M:Model}{A:Around}{E:Value->Shared->Prop}{env:Env}
variable {nm q:Str}{C N:Addr}{bs bm:List Value}{hdct:Bool}{sn:List Str}{sub:List Value}{ab:Bool}{col:Option Bool}{dd:Option Addr}{k0 k1 k2 k3 k5:Option Value}{newId:String}
end
section
variable {X:Cx}{E:XK}{C P fI:Addr}{f x a b:Str}{e:Expr}{t:TA}{np cpos pos:Pos}{fd:FuncData}{k:Nat}
end
section
variable {X:Cx}{body suite:List Stmt}{b₀:Stmt}{cn n:Str}{Ch:Addr}{i:Nat}{tb:XK->TS}{ts:Addr->Addr->Option Addr->TS}{np hpos pos:Pos}
end
end L2
namespace L2
open PySem PySem.Spec PyProof.Rows PySem.W
section
variable {X:Cx}{pins:List (Addr×Obj)}{σ:St}{H:Hp}{s:Shared}{h':Heap}
end
section
variable {X:Cx}{suite:List Stmt}{b₀:Stmt}{cn n fx:Str}{Ch:Addr}{i k j:Nat}{ts:Addr->Addr->Option Addr->TS}{np hpos pos p cpos epos:Pos}{ps:List Str}{sp:Sp}{e:Expr}{es:List Expr}{t:TA}
end
end L2
namespace L2
open PySem PySem.Spec PyProof.Rows
section
variable {K:PySem.W.Frag}{Er:Exc->Hp->Prop}{S:SC}{OO OO' OO2:List (List Xr)}{σ:St}{α β γ ρ ι:Type}{α1 α2 α3:Type}{mg:Str->Option Value}{E:XK}{u:TS}
variable {Fd:Ends->β->Hp->Prop}[fd:FdOk Fd]
theorem EvB.stB {te:TE}{r:Enc α}{m:Rs α}(he:EvB K Er S OO σ te r m){H:Hp}{D:Ends}{Q:VK}(w:W OO H)(s:S.p (hid H OO)){f:α->Rs β}(P:PZ Er (Fd D) (hid H OO) (m.bind f))
  (hk:∀a v H',Xp H H'->W OO H'->S.p (hid H' OO)->r K H' v a->PZ Er (Fd D) (hid H' OO) (f a)->Q v H'):te σ H Q:=by
 refine he H Q w s ?_
 cases m with
 |bad=>exact P
 |err x=>exact λH' s'=>P H' (XD.trans s')
 |ok a=>exact λv H' s' r=>hk a v H' s' (w.keep s') (S.mono _ _ (Xj s') s) r (PZ.tr (fd.tr D) (Xj s') P)
end
section
variable {X:Cx}
end
section
variable {K:PySem.W.Frag}{Er:Exc->Hp->Prop}{S:SC}{OO OO':List (List Xr)}{σ:St}{α β:Type}{u:TS}{Fd:Ends->β->Hp->Prop}[fd:FdOk Fd]
end
noncomputable def Al (C:List Xr)(kk:Nat)(v:V):Prop:=∃ p xs R,C=(p, .lst xs)::R/\xs[kk]?=some v
noncomputable def rAl (C:List Xr):Enc Nat:=λ_ _ v kk=>Al C kk v
instance {C:List Xr}:MonoE (rAl C):=⟨λ_ h=>h⟩
section
variable {K:PySem.W.Frag}{Er:Exc->Hp->Prop}{S:SC}{OO:List (List Xr)}{σ:St}{α β:Type}{u:TS}{Fd:Ends->β->Hp->Prop}[fd:FdOk Fd]
theorem Kp {r:Enc α}[z:MonoE r]{H:Hp}{k kk:Nat}{C:List Xr}{v y:V}{as:List (List α)}{row:List α}(w:W OO H)(hk:OO[k]?=some C)(o:oL (oL (oF r)) K (hid H OO) v as C)(al:Al C kk y)(hrow:as[kk]?=some row):
  ∃q ys,y= .ref q/\H q=some (.lst ys)/\Paired (r K (hid H OO)) ys row/\∀ys' row',Paired (r K (hid H OO)) ys' row'->∃C',W (OO.set k C') (upd H q (.lst ys'))/\Xp (hid H OO) (hid (upd H q (.lst ys')) (OO.set k C'))/\oL (oL (oF r)) K (hid (upd H q (.lst ys')) (OO.set k C')) v (as.set kk row') C'/\Al C' kk y:=by
 obtain⟨p,xs,Cs,e,q,c⟩:=o
 subst c e
 obtain⟨p',xs',R,ec,hy⟩:=al
 injection ec with e1 e2
 injection e1 with e3 e4
 injection e4 with e5
 subst e5
 obtain⟨q0,ys,g1,g2,g3⟩:=Jt q hrow
 rw[g1] at hy
 cases hy
 have hin:∀c∈(p,HO.lst xs)::Cs.flatten,c∈OO.flatten:=λc hc=>List.mem_flatten.mpr ⟨_,List.mem_of_getElem? hk,hc⟩
 have hH:H p=some (.lst xs):=w.tr (p, .lst xs) (hin _ List.mem_cons_self)
 have hm:(q0,HO.lst ys)∈Cs.flatten:=ZA g2 _ (by simp)
 have hq0:H q0=some (.lst ys):=w.tr (q0, .lst ys) (hin _ (List.mem_cons_of_mem _ hm))
 have ne:p≠q0:=λz=>by
  have cn:(((p,HO.lst xs)::Cs.flatten).map (·.1)).Nodup:=w.nd.sublist (List.Sublist.map _ (List.sublist_flatten_of_mem (List.mem_of_getElem? hk)))
  rw[List.map_cons,List.nodup_cons] at cn
  exact cn.1 (List.mem_map.mpr ⟨_,hm,z.symm⟩)
 refine⟨q0,ys,rfl,hq0,g3,λys' row' pr=>?_⟩
 obtain⟨C',w4,m4,o4⟩:=Vk (ys':=ys') (row':=row') (v:=.ref p) w hk q hrow g1 hq0 g2 pr
 refine⟨C',w4,m4,o4,?_⟩
 obtain⟨p2,xs2,Cs2,ep,_,ec2⟩:=o4
 cases ep
 have hlen:k<OO.length:=(List.getElem?_eq_some_iff.mp hk).1
 have h5:=w4.tr (p, .lst xs2) (List.mem_flatten.mpr ⟨C',List.mem_of_getElem? (List.getElem?_set_self hlen),by rw[ec2];exact List.mem_cons_self⟩)
 rw[Xw ne,hH] at h5
 cases h5
 exact⟨p,xs,_,ec2,g1⟩
noncomputable def alR (as:List (List α))(x:Int):Rs Nat:=match ixN as.length x with
 |some kk=>.ok kk
 |none=>.bad
noncomputable def GE (as:List (List α))(kk:Nat):Rs (List α):=match as[kk]? with
 |some row=>.ok row
 |none=>.bad
theorem Hc {n:Nat}{x:Int}{kk:Nat}(h:ixN n x=some kk):kk<n:=by
 unfold ixN at h
 split at h
 ·split at h
  ·cases h;omega
  ·cases h
 ·split at h
  ·cases h;omega
  ·cases h
theorem C9 {ti:TE}{r:Enc α}[MonoE r]{mi:Rs Int}{f:Nat->Rs β}{v:V}{as:List (List α)}{C:List Xr}(i k j:Nat)(hσ:σ[i]?=some (some v))(hk:OO[k]?=some C)(h:∀x,S.p x->oL (oL (oF r)) K x v as C)(hi:EvB K Er S OO σ ti Xd mi)
  (hr:∀kk y,Sv Er (S.add K (rAl C) y kk) OO (σ.set j (some y)) u Fd (f kk)):
  Sv Er S OO σ (ZQ (GV (tOp (Ei K) (VM i) ti) (QC j)) u) Fd (mi.bind λx=>(alR as x).bind f):=λH D w s P=>
 ⟨v,hσ,hi.stB (Fd:=Fd) w s P λx vx H2 s2 w2 q2 r2 P2=>by
  unfold alR at P2
  cases hkk:ixN as.length x with
  |none=>rw[hkk] at P2;exact P2.elim
  |some kk=>
   rw[hkk] at P2
   obtain⟨p,xs,Cs,e,q,c⟩:=h _ q2
   subst c e
   obtain⟨row,hrow⟩:∃row,as[kk]?=some row:=⟨_,List.getElem?_eq_getElem (Hc hkk)⟩
   obtain⟨q0,ys,g1,g2,g3⟩:=Jt q hrow
   have hH:H2 p=some (.lst xs):=w2.tr (p, .lst xs) (List.mem_flatten.mpr ⟨_,List.mem_of_getElem? hk,List.mem_cons_self⟩)
   exact⟨p,xs,x, .ref q0,rfl,r2,SqL.of hH,by unfold atI;rw[q.len.1,hkk];exact g1,hr kk (.ref q0) H2 D w2 ⟨q2,p,xs,_,rfl,g1⟩ P2⟩⟩
theorem KW {ta tj:TE}{r:Enc α}[z:MonoE r]{m:Rs α}{mj:Rs Int}{f:List (List α)->Rs β}{v y:V}{as:List (List α)}{C:List Xr}{kk:Nat}(j k:Nat)(hσ:σ[j]?=some (some y))(hk:OO[k]?=some C)(h:∀x,S.p x->oL (oL (oF r)) K x v as C)(ha:∀x,S.p x->rAl C K x y kk)(he:EvS K Er S OO σ ta r m)(hj:EvB K Er S OO σ tj Xd mj)
  (hr:∀bs C',Sv Er ((S.addO K (oL (oL (oF r))) v bs C').add K (rAl C') y kk) (OO.set k C') σ u Fd (f bs)):
  Sv Er S OO σ (ZQ (GV ta (Il (VM j) tj BH)) u) Fd (m.bind λa=>mj.bind λx=>(GE as kk).bind λrow=>(Qa row x a).bind λrow'=>f (as.set kk row')):=λH D w s P=>
 he.st w s P λa va H1 s1 w1 q1 r1 P1=>⟨y,hσ,hj.stB (Fd:=Fd) w1 q1 P1 λx vx H2 s2 w2 q2 r2 P2=>by
  unfold GE at P2
  cases hrow:as[kk]? with
  |none=>rw[hrow] at P2;exact P2.elim
  |some row=>
   rw[hrow] at P2
   obtain⟨q,ys,e,hq,pr,up⟩:=Kp w2 hk (h _ q2) (ha _ q2) hrow
   have P3':PZ Er (Fd D) (hid H2 OO) ((Qa row x a).bind λrow'=>f (as.set kk row')):=P2
   cases eb:Qa row x a with
   |bad=>rw[eb] at P3';exact P3'.elim
   |err ex=>exact absurd eb F8
   |ok row'=>
    rw[eb] at P3'
    obtain⟨jj,hjj,rfl⟩:=Fp eb
    obtain⟨C',w4,m4,o4,al4⟩:=up (ys.set jj va) _ (Qs (z.mono (Xj s2) r1) jj pr)
    exact⟨q,ys,x,jj,e,r2,hq,by rw[Paired.len pr];exact hjj,hr _ C' _ D w4 ⟨⟨S.mono _ _ m4 q2,o4⟩,al4⟩ (PZ.tr (fd.tr D) m4 P3')⟩⟩
end
section
variable {X:Cx}
noncomputable def G3:V->List V->Hp->VK->Prop:=λx vs H Q=>∃ a b,x= .str a/\vs=[.str b]/\Q (.bl (Txt.startswith a b)) H
theorem GX:MtR X "str.startswith" G3:=by
 intro pins s σ H x vs v us Q I rx rv h
 obtain⟨a,b,rfl,rfl,q⟩:=h
 obtain⟨t,rfl⟩:=rx
 obtain⟨u,rfl,ru⟩:=XT.one rv
 obtain⟨t2,rfl⟩:=ru
 exact PySem.SC.startswith ⟨.bl _,H,I,rfl,q⟩
noncomputable def BD:V->List V->Hp->VK->Prop:=λx vs H Q=>∃ a,x= .str a/\vs=[]/\Q (.bl (Txt.isdigit a)) H
theorem CO:MtR X "str.isdigit" BD:=by
 intro pins s σ H x vs v us Q I rx rv h
 obtain⟨a,rfl,rfl,q⟩:=h
 obtain⟨t,rfl⟩:=rx
 cases rv
 exact PySem.SC.isdigit ⟨.bl _,H,I,rfl,q⟩
theorem KM:∀{ys:List Str}{its:List Value},XT (ys.map V.str) its->StrsAre its ys
 | [],_,h=>by cases h;exact .nil
 |y::ys,_,h=>by
  cases h with
  |cons r t=>
   obtain⟨u,rfl⟩:=r
   exact .cons _ _ (KM t)
noncomputable def Hq (K:PySem.W.Frag):V->List V->Hp->VK->Prop:=λx vs H Q=>∃ a p ys,x= .str a/\vs=[.ref p]/\SqL K H p (ys.map V.str)/\(ys.map (·.length)).sum+ys.length*a.length<=16777216/\Q (.str (Txt.join a ys)) H
theorem Vo (K:PySem.W.Frag)(hK:X.K=K):MtR X "str.join" (Hq K):=by
 subst hK
 intro pins s σ H x vs v us Q I rx rv h
 obtain⟨a,p,ys,rfl,rfl,hq,hb,q⟩:=h
 obtain⟨t,rfl⟩:=rx
 obtain⟨u,rfl,ru⟩:=XT.one rv
 cases ru
 obtain⟨its,rr,pl,hz⟩:=I.list hq
 exact PyProof.Rows.join_list pl.isList (by simpa using KM rr) hb λt' k=>⟨.str _,H,I.tok _,⟨_,rfl⟩,q⟩
noncomputable def Bh:V->List V->Hp->VK->Prop:=λx vs H Q=>∃ a b,x= .str a/\vs=[.str b]/\(b.length==0)=false/\a.length<=sizeLine/\(Txt.split a b).length<=sizeLine/\∀l,H l=none->Q (.ref l) (upd H l (.lst ((Txt.split a b).map V.str)))
theorem Ug:∀(l:List (Str×Tok)),XT ((l.map (·.1)).map V.str) (strValues l)
 | []=>.nil
 | (x,t)::l=>.cons ⟨t,rfl⟩ (Ug l)
theorem DT:MtR X "str.split" Bh:=by
 intro pins s σ H x vs v us Q I rx rv h
 obtain⟨a,b,rfl,rfl,hb,ha,hz,q⟩:=h
 obtain⟨t,rfl⟩:=rx
 obtain⟨u,rfl,ru⟩:=XT.one rv
 obtain⟨t2,rfl⟩:=ru
 have fin:∀(l:List (Str×Tok)) (k:Nat),l.map (·.1)=Txt.split a b->EP X pins σ Q (.ref s.heap.objs.size) {s with heap:=s.heap.push {cls:=.type "list",data:=.seq (strValues l).toArray},toks:=k}:=λl k hl=>
  ⟨.ref s.heap.objs.size,_,I.laid (t':=k) (o:=.lst ((Txt.split a b).map V.str)) (λb ob q=>Heap.get?_push_of_some _ q) (Nat.le_refl _) ⟨by rw[List.length_map];exact hz,_,0,by rw[←hl];exact Ug l,Heap.get?_push_size _ rfl⟩,rfl,q _ (I.hok.fresh (Nat.le_refl _))⟩
 cases h1:(decide (a.length<b.length) || decide (Builtin.Str.strKind a<Builtin.Str.strKind b))
 ·cases hf:(Builtin.Str.occurrences a b 0 a.length (a.length+1)).isEmpty
  ·have e:Txt.split a b=Builtin.Str.partsBetween a (Builtin.Str.occurrences a b 0 a.length (a.length+1)) b.length:=(if_neg (ne_true_of_eq_false h1)).trans (if_neg (ne_true_of_eq_false hf))
   rw[e] at hz
   refine call_meets F.slot_str_split (typeIs_str _ _ _) F.entry_str_split (F.args_str_split_2 _ _) (meets_str_split_sep a b t t2 h1 hb hf ha hz) ?_
   show EP X pins σ Q _ {s with toks:=_,heap:=s.heap.push {cls:=.type "list",data:=.seq (strsFrom s.toks (Builtin.Str.partsBetween a (Builtin.Str.occurrences a b 0 a.length (a.length+1)) b.length)).toArray}}
   rw[strsFrom_eq]
   exact fin (numbered s.toks _) _ ((numbered_texts _ _).trans e.symm)
  ·exact call_meets F.slot_str_split (typeIs_str _ _ _) F.entry_str_split (F.args_str_split_2 _ _) (meets_str_split_not_found a b t t2 h1 hb hf) (fin [(a,t)] s.toks ((if_neg (ne_true_of_eq_false h1)).trans (if_pos hf)).symm)
 ·exact call_meets F.slot_str_split (typeIs_str _ _ _) F.entry_str_split (F.args_str_split_2 _ _) (meets_str_split_cannot_occur a b t t2 h1) (fin [(a,t)] s.toks (if_pos h1).symm)
noncomputable def IQ:V->Option Int->Option Int->Hp->VK->Prop:=λx lo hi H Q=>∃ a,x= .str a/\a.length<=sizeLine/\Q (.str (Txt.slice a lo hi)) H
theorem HD:SlR X IQ:=by
 intro pins s σ H x v vl vu lo hi sl Q I rx hs pl pu h
 obtain⟨a,rfl,hz,q⟩:=h
 obtain⟨t,rfl⟩:=rx
 obtain⟨o,ho,hc,hd⟩:=hs
 refine⟨"str",_,F.slot_str_getitem.lookup,typeIs_str _ _ _,?_⟩
 have fin:∀(t':Tok) (k:Nat),EP X pins σ Q (.str (Txt.slice a lo hi) t') {s with toks:=k}:=λt' k=>⟨.str _,H,I.tok _,⟨_,rfl⟩,q⟩
 cases pl with
 |none=>
  cases pu with
  |none=>exact wpAny_getItem_str_slice (l:=none) (u:=none) (st:=none) ⟨o,ho,hc,hd⟩ rfl (post_val_or_str ⟨Nat.le_trans (Txt.slice_le a _ _) hz,λt' k=>fin t' k⟩)
  |int j tj=>exact wpAny_getItem_str_slice (l:=none) (u:=some (j,tj)) (st:=none) ⟨o,ho,hc,hd⟩ rfl (post_val_or_str ⟨Nat.le_trans (Txt.slice_le a _ _) hz,λt' k=>fin t' k⟩)
 |int i ti=>
  cases pu with
  |none=>exact wpAny_getItem_str_slice (l:=some (i,ti)) (u:=none) (st:=none) ⟨o,ho,hc,hd⟩ rfl (post_val_or_str ⟨Nat.le_trans (Txt.slice_le a _ _) hz,λt' k=>fin t' k⟩)
  |int j tj=>exact wpAny_getItem_str_slice (l:=some (i,ti)) (u:=some (j,tj)) (st:=none) ⟨o,ho,hc,hd⟩ rfl (post_val_or_str ⟨Nat.le_trans (Txt.slice_le a _ _) hz,λt' k=>fin t' k⟩)
noncomputable def EU:List V->Hp->VK->Prop:=λxs H Q=>∃ z n,xs=[.str z]/\PySem.intText? z=some n/\z.length<=640/\Q (.int n) H
theorem Dp:ZJ X (.type "int") EU:=by
 intro pins s σ H xs us Q I r h
 obtain⟨z,n,rfl,hn,hl,q⟩:=h
 obtain⟨u,rfl,ru⟩:=Kb r
 obtain⟨t,rfl⟩:=ru
 exact W.KIN.call_text hn hl ⟨.int n,H,I.tok _,⟨_,rfl⟩,q⟩
end
section
variable {X:Cx}{e:Expr}{es:List Expr}{te:TE}{t:TJ}{n:Nat}{pos p:Pos}
noncomputable def tJr (te:TE)(t:TJ):TJ:=λσ H Q=>te σ H λv H1=>∃ x:Str,v= .str x/\(reprText x).length<=2000/\t σ H1 Q
theorem Fm (he:PE X e te)(hr:PJ X es (n+2000) t)(hz:n+2000<=sizeLine:=by exact Nat.le_of_ble_eq_true rfl):PJ X (.FormattedValue e 114 none p::es) n (tJr te t):=λpins s σ H Q out I hl q=>by
 refine joinParts_cons (wpAny_FormattedValue_repr (wpAny_mono (he pins s σ H _ I q) (λu s1 r9=>?_) λ_ _ z=>z))
 obtain⟨v,H1,I1,r,x,hv,hx,q1⟩:=r9
 subst hv
 obtain⟨tk,hu⟩:∃tk,u=Value.str x tk:=r
 subst hu
 have h2:(reprText x).length<=sizeLine:=Nat.le_trans hx (by decide)
 refine wpAny_pyReprObj_str ?_ h2
 have hle:(out++reprText x).length<=n+2000:=by rw[strLen_append];omega
 exact formatField_str (λt' tk=>⟨Nat.le_trans hle hz,hr pins _ σ H1 Q _ ((I1.tok _).tok _) hle q1⟩) h2
end
section
variable {α β:Type}{K:PySem.W.Frag}{Er:Exc->Hp->Prop}{S:SC}{OO:List (List Xr)}{σ:St}
noncomputable def sI (i:Int):Str:=toString i
theorem GB {ta tb:TE}{ma mb:Rs Str}(ha:EvB K Er S OO σ ta XG ma)(hb:EvB K Er S OO σ tb XG mb):EvB K Er S OO σ (tBM K "str" G3 ta (XA tb Zy)) Xz (ma.bind λa=>mb.bind λb=>.ok (Txt.startswith a b)):=λH Q w s P=>
 ha.run w s FB.tr P λa x H1 s1 w1 q1 e P1=>⟨by rw[show x= .str a from e];exact rfl,hb.run w1 q1 FB.tr P1 λb v H2 s2 w2 q2 r2 P2=>⟨a,b,e,by rw[show v= .str b from r2],P2 _ H2 (Xp.refl _) rfl⟩⟩
theorem Ff {ta:TE}{ma:Rs Str}(ha:EvB K Er S OO σ ta XG ma):EvB K Er S OO σ (Ip K "str" BD ta) Xz (ma.bind λa=>.ok (Txt.isdigit a)):=λH Q w s P=>
 ha.run w s FB.tr P λa x H1 s1 w1 q1 e P1=>⟨by rw[show x= .str a from e];exact rfl,a,e,rfl,P1 _ H1 (Xp.refl _) rfl⟩
theorem DG {H:Hp}:∀{xs:List V}{as:List Str},Paired (XG K H) xs as->xs=as.map V.str
 |_,_, .nil=>rfl
 |_,_, .cons r t=>by rw[DG t,show _=V.str _ from r];rfl
theorem F1 {H:Hp}:∀(as:List Str),Paired (XG K H) (as.map V.str) as
 | []=>.nil
 |a::as=>.cons rfl (F1 as)
theorem QT {ta tb:TE}{ma:Rs Str}{mb:Rs (List Str)}(ha:EvB K Er S OO σ ta XG ma)(hb:EvB K Er S OO σ tb (rV XG) mb):EvB K Er S OO σ (tBM K "str" (Hq K) ta (XA tb Zy)) XG (ma.bind λa=>mb.bind λys=>chk ((ys.map (·.length)).sum+ys.length*a.length<=16777216) (.ok (Txt.join a ys))):=λH Q w s P=>
 ha.run w s FB.tr P λa x H1 s1 w1 q1 e P1=>⟨by rw[show x= .str a from e];exact rfl,hb.run w1 q1 FB.tr P1 λys v H2 s2 w2 q2 ⟨p,xs,ev,hq,pr⟩ P2=>by
  obtain⟨hn,P3⟩:=PZ.chk P2
  exact⟨a,p,ys,e,by rw[ev],SqL.of (by rw[hq,DG pr]),hn,P3 _ H2 (Xp.refl _) rfl⟩⟩
theorem CK {ta tb:TE}{ma mb:Rs Str}(ha:EvB K Er S OO σ ta XG ma)(hb:EvB K Er S OO σ tb XG mb):Ev K Er S OO OO σ (tBM K "str" Bh ta (XA tb Zy)) (oL (oF XG)) (ma.bind λa=>mb.bind λb=>chk ((b.length==0)=false/\a.length<=sizeLine/\(Txt.split a b).length<=sizeLine) (.ok (Txt.split a b))):=λH Q w s P=>
 ha.run w s FO.tr P λa x H1 s1 w1 q1 e P1=>⟨by rw[show x= .str a from e];exact rfl,hb.run w1 q1 FO.tr P1 λb v H2 s2 w2 q2 r2 P2=>by
  obtain⟨⟨h0,h1,h3⟩,P3⟩:=PZ.chk P2
  exact⟨a,b,e,by rw[show v= .str b from r2],h0,h1,h3,Br w2 (F1 _) P3⟩⟩
theorem Ge {te:TE}{tl th:TO}{m:Rs Str}{ml mh:Rs (Option Int)}(he:EvB K Er S OO σ te XG m)(hl:EvP Er S OO σ tl ml)(hh:EvP Er S OO σ th mh):
  EvB K Er S OO σ (tSl IQ te tl th) XG (m.bind λa=>ml.bind λlo=>mh.bind λhi=>chk (a.length<=sizeLine) (.ok (Txt.slice a lo hi))):=λH Q w s P=>
 he.run w s FB.tr P λa x H1 s1 w1 q1 e P1=>hl.run w1 q1 FB.tr P1 λlo H2 s2 w2 q2 P2=>hh.run w2 q2 FB.tr P2 λhi H3 s3 w3 q3 P3'=>by
  obtain⟨hn,P4⟩:=PZ.chk P3'
  exact⟨a,e,hn,P4 _ H3 (Xp.refl _) rfl⟩
noncomputable def BB (a:Str):Rs Int:=match PySem.intText? a with
 |some n=>chk (a.length<=640) (.ok n)
 |none=>.bad
theorem B8 {a:Str}{x:Exc}:BB a≠ .err x:=by unfold BB;split;exact Z2;exact λz=>nomatch z
theorem BI {a:Str}{n:Int}(h:BB a= .ok n):PySem.intText? a=some n/\a.length<=640:=by
 unfold BB at h;split at h
 ·obtain⟨h1,h2⟩:=Zc h;cases h2;exact⟨by assumption,h1⟩
 ·cases h
theorem DZ {ta:TE}{ma:Rs Str}(ha:EvB K Er S OO σ ta XG ma):EvB K Er S OO σ (tCB EU (XA ta Zy)) Xd (ma.bind BB):=λH Q w s P=>
 ha.run w s FB.tr P λa x H1 s1 w1 q1 e P1=>by
  obtain⟨c,hc,P3⟩:=P1.okOf λx=>B8
  obtain⟨h1,h2⟩:=BI hc
  exact⟨a,c,by rw[show x= .str a from e],h1,h2,P3 _ H1 (Xp.refl _) rfl⟩
theorem VE {ta:TE}{ma:Rs Int}(ha:EvB K Er S OO σ ta Xd ma):EvB K Er S OO σ (tCB (λxs H Q=>∃ i:Int,xs=[.int i]/\i.natAbs.log2<1920/\Q (.str (toString i)) H) (XA ta Zy)) XG (ma.bind λi=>chk (i.natAbs.log2<1920) (.ok (sI i))):=λH Q w s P=>
 ha.run w s FB.tr P λi x H1 s1 w1 q1 e P1=>by
  obtain⟨hn,P3⟩:=PZ.chk P1
  exact⟨i,by rw[show x= .int i from e],hn,P3 _ H1 (Xp.refl _) rfl⟩
theorem CA {ta:TE}{ma:Rs Str}(ha:EvB K Er S OO σ ta XG ma):EvB K Er S OO σ (tCB (λxs H Q=>∃ z:Str,xs=[.str z]/\z.length<=sizeLine/\Q (.int z.length) H) (XA ta Zy)) Xd (ma.bind λa=>chk (a.length<=sizeLine) (.ok (a.length:Int))):=λH Q w s P=>
 ha.run w s FB.tr P λa x H1 s1 w1 q1 e P1=>by
  obtain⟨hn,P3⟩:=PZ.chk P1
  exact⟨a,by rw[show x= .str a from e],hn,P3 _ H1 (Xp.refl _) rfl⟩
theorem K6 {te:TE}{t:TJ}{ma:Rs Str}{m:Rs Unit}(ha:EvB K Er S OO σ te XG ma)(h:EvJ Er S OO σ t m):EvJ Er S OO σ (tJr te t) (ma.bind λa=>chk ((reprText a).length<=2000) m):=λH Q w s P=>
 ha.run w s FJ.tr P λa v H1 s1 w1 q1 e P1=>by
  obtain⟨hn,P3⟩:=PZ.chk P1
  exact⟨a,e,hn,h H1 Q w1 q1 P3⟩
theorem DY {o:OE α}{r:Enc α}[z:FrzC o r]{te:TE}{v:V}{a:α}{C:List Xr}(k:Nat)(ht:∀(H:Hp) (Q:VK),W OO H->S.p (hid H OO)->Q v H->te σ H Q)(hk:OO[k]?=some C)(h:∀x,S.p x->o K x v a C):EvB K Er S OO σ te r (.ok a):=λH Q w s P=>
 ht H Q w s (P v H (Xp.refl _) (z.frz (h _ s) XD λc hc=>w.tr c (List.mem_flatten.mpr ⟨C,List.mem_of_getElem? hk,hc⟩)))
noncomputable def rC (n:Int):Enc Unit:=λ_ _ v _=>v= .int n
instance {n:Int}:FlatE (rC n):=⟨λ_ h=>h⟩
theorem Hl (n:Int):EvB K Er S OO σ (tC (.int n)) (rC n) (.ok ()):=λH Q w s P=>P _ H (Xp.refl _) rfl
theorem Bx {te:TE}{n:Int}{m:Rs Unit}(h:EvB K Er S OO σ te (rC n) m):EvB K Er S OO σ te Xd (m.bind λ_=>.ok n):=λH Q w s P=>
 h.run w s FB.tr P λa v H1 s1 w1 q1 e P1=>P1 v H1 (Xp.refl _) e
section
variable {ρ:Type}{mg:Str->Option Value}{u:TS}{te:XK->TE}{m:Rs α}{mc:Rs Bool}{c:XK->TT}{t2:XK->TS}{ts:Addr->Addr->TS}{N i:Nat}{Ch:Addr}{o:OE ρ}{g:Exc->Rs ρ}{ns:List Str}{d:Str}{OO':List (List Xr)}
theorem Cr {o1:OE α}[MonoO o1]{f:α->Rs ρ}(Y:Ecs ns K mg)(hd:d∈ns)(hm:mg d=some (.ref Ch))(j k:Nat)(hc:∀E,EvT (ErE mg E) S OO σ (c E) mc)(hb:mc= .ok true)(he:∀E,Ev K (ErE mg E) S OO OO' σ (te E) o1 m)(hk:k<OO'.length)
  (hr:∀a v C,Sv Er (S.addO K o1 v a C) (OO'.set k C) (σ.set j (some v)) u (FTd K o) (f a))
  (hs:∀x,x.cls∈ns->∀C a,mg x.cls=some (.ref C)->Sv Er S OO ((blank N).set i (some (.ref a))) (ts a C) (FTd K o) (g x)):
  Sv Er S OO σ (ZQ (HN K N (.ref Ch) i (λE=>ZQ (Eg (c E) (ZQ (GV (te E) (QC j)) Q9) (t2 E)) Q9) ts) u) (FTd K o) (m.tryC f (λx=>chk (cau ns x.cls d=true) (g x))):=λH D w s P=>
 hc _ H _ w s (by rw[hb];exact λH' s'=>Du Y hd hm j k he hk hr hs H' D (w.keep s') (S.mono _ _ (Xj s') s) (PZ.tr (FdOk.tr (Fd:=FTd K o) D) (Xj s') P))
theorem DS {o1:OE α}[MonoO o1]{f:α->Rs ρ}(Y:Ecs ns K mg)(hd:d∈ns)(hm:mg d=some (.ref Ch))(j k:Nat)(hc:∀E,EvT (ErE mg E) S OO σ (c E) mc)(hb:mc= .ok false)(he:∀E,Ev K (ErE mg E) S OO OO' σ (te E) o1 m)(hk:k<OO'.length)
  (hr:∀a v C,Sv Er (S.addO K o1 v a C) (OO'.set k C) (σ.set j (some v)) u (FTd K o) (f a))
  (hs:∀x,x.cls∈ns->∀C a,mg x.cls=some (.ref C)->Sv Er S OO ((blank N).set i (some (.ref a))) (ts a C) (FTd K o) (g x)):
  Sv Er S OO σ (ZQ (HN K N (.ref Ch) i (λE=>ZQ (Eg (c E) (t2 E) (ZQ (GV (te E) (QC j)) Q9)) Q9) ts) u) (FTd K o) (m.tryC f (λx=>chk (cau ns x.cls d=true) (g x))):=λH D w s P=>
 hc _ H _ w s (by rw[hb];exact λH' s'=>Du Y hd hm j k he hk hr hs H' D (w.keep s') (S.mono _ _ (Xj s') s) (PZ.tr (FdOk.tr (Fd:=FTd K o) D) (Xj s') P))
end
section
variable {u:TS}{Fd:Ends->β->Hp->Prop}[fd:FdOk Fd]
theorem CC {ta:TE}{r:Enc α}[z:MonoE r]{m:Rs α}{f:List (List α)->Rs β}{v y:V}{as:List (List α)}{C:List Xr}{kk:Nat}(j k:Nat)(hσ:σ[j]?=some (some y))(hk:OO[k]?=some C)(h:∀x,S.p x->oL (oL (oF r)) K x v as C)(ha:∀x,S.p x->rAl C K x y kk)(he:EvS K Er S OO σ ta r m)
  (hr:∀bs C',Sv Er ((S.addO K (oL (oL (oF r))) v bs C').add K (rAl C') y kk) (OO.set k C') σ u Fd (f bs)):
  Sv Er S OO σ (ZQ (UG (tBM K "list" Z4 (VM j) (XA ta Zy))) u) Fd ((GE as kk).bind λrow=>m.bind λa=>chk (row.length<sizeLine) (f (as.set kk (row++[a])))):=λH D w s P=>by
 unfold GE at P
 cases hrow:as[kk]? with
 |none=>rw[hrow] at P;exact P.elim
 |some row=>
  rw[hrow] at P
  obtain⟨q,ys,e,hq,pr,_⟩:=Kp w hk (h _ s) (ha _ s) hrow
  have P0:PZ Er (Fd D) (hid H OO) (m.bind λa=>chk (row.length<sizeLine) (f (as.set kk (row++[a])))):=P
  refine⟨y,hσ,by rw[e];exact .inl ⟨rfl,_,SqL.of hq⟩,he.st w s P0 λa va H2 s2 w2 q2 r2 P2=>?_⟩
  obtain⟨q',ys',e',hq',pr',up⟩:=Kp w2 hk (h _ q2) (ha _ q2) hrow
  obtain⟨hz,P4⟩:=PZ.chk P2
  obtain⟨C',w4,m4,o4,al4⟩:=up (ys'++[va]) _ (Paired.app pr' (.cons r2 .nil))
  exact⟨q',ys',va,e',rfl,hq',by rw[Paired.len pr'];exact hz,hr _ C' _ D w4 ⟨⟨S.mono _ _ m4 q2,o4⟩,al4⟩ (PZ.tr (fd.tr D) m4 P4)⟩
theorem Q4 {F:α->β->Prop}{l:List α}{m:List β}(p:Paired F l m):Paired F l.dropLast m.dropLast:=by
 rw[List.dropLast_eq_take,List.dropLast_eq_take,Paired.len p]
 exact Paired.take' _ p
theorem GT {r:Enc α}[z:MonoE r]{f:List (List α)->Rs β}{v y:V}{as:List (List α)}{C:List Xr}{kk:Nat}(j k:Nat)(hσ:σ[j]?=some (some y))(hk:OO[k]?=some C)(h:∀x,S.p x->oL (oL (oF r)) K x v as C)(ha:∀x,S.p x->rAl C K x y kk)
  (hr:∀bs C',Sv Er ((S.addO K (oL (oL (oF r))) v bs C').add K (rAl C') y kk) (OO.set k C') σ u Fd (f bs)):
  Sv Er S OO σ (ZQ (UG (Ip K "list" IF (VM j))) u) Fd ((GE as kk).bind λrow=>chk (0<row.length) (f (as.set kk row.dropLast))):=λH D w s P=>by
 unfold GE at P
 cases hrow:as[kk]? with
 |none=>rw[hrow] at P;exact P.elim
 |some row=>
  rw[hrow] at P
  obtain⟨q',ys',e',hq',pr',up⟩:=Kp w hk (h _ s) (ha _ s) hrow
  obtain⟨hz,P4⟩:=PZ.chk (show PZ Er (Fd D) (hid H OO) (chk (0<row.length) (f (as.set kk row.dropLast))) from P)
  have hl:=Paired.len pr'
  obtain⟨C',w4,m4,o4,al4⟩:=up ys'.dropLast _ (Q4 pr')
  obtain⟨yy,hy⟩:∃yy,ys'[ys'.length-1]?=some yy:=⟨ys'[ys'.length-1]'(by omega),List.getElem?_eq_getElem _⟩
  exact⟨y,hσ,by rw[e'];exact .inl ⟨rfl,_,SqL.of hq'⟩,q',ys',yy,e',rfl,hq',hy,hr _ C' _ D w4 ⟨⟨S.mono _ _ m4 s,o4⟩,al4⟩ (PZ.tr (fd.tr D) m4 P4)⟩
end
end
noncomputable def QR (h:Heap)(T:Addr):Heap:=h.update T (Obj.mapFields (·.setIfInBounds 3 Value.none))
structure FlA (h0 h:Heap)(H:Hp)(a T:Addr)(cls fl:Value):Prop where
 na:h0.get? a=none
 nT:h0.get? T=none
 fa:H a=none
 fT:H T=none
 ne:T≠a
 obj:∃oe vs oT ts a0,h.get? a=some oe/\oe.cls=cls/\vs[0]?=some a0/\oe.data= .fields vs/\vs[1]?=some (.ref T)/\h.get? T=some oT/\oT.data= .fields ts/\ts[3]?=some fl
section
variable {h0 h:Heap}{H:Hp}{a T:Addr}{cls fl:Value}
theorem YM (b:Addr)(hb:b≠T):(QR h T).get? b=h.get? b:=Heap.get?_update_other _ _ (Ne.symm hb)
theorem FlA.calm (x:FlA h0 h H a T cls fl):Fl h0 (QR h T) H a T cls:=by
 obtain⟨oe,vs,oT,ts,a0,ha,hc,h0',hd,h1,hT,hdT,h3⟩:=x.obj
 have hsz:3<ts.size:=(Array.getElem?_eq_some_iff.mp h3).1
 exact⟨x.na,x.nT,x.fa,x.fT,x.ne,oe,vs,_,_,a0,(YM a (Ne.symm x.ne)).trans ha,hc,h0',hd,h1,Heap.get?_update_self _ hT (Obj.isFreed_of_fields (Obj.data_mapFields hdT _)),Obj.data_mapFields hdT _,by simp[hsz]⟩
theorem Fc {oT:Obj}{ts:Array Value}(hT:h.get? T=some oT)(hdT:oT.data= .fields ts):h.UpToSlots (QR h T):=λb o e hn=>⟨o.slots,(YM b λz=>by
 rw[z,hT] at e;cases e;exact hn _ hdT).trans e⟩
theorem FlA.up (x:FlA h0 h H a T cls fl):h.UpToSlots (QR h T):=by
 obtain⟨_,_,_,_,_,_,_,_,_,_,hT,hdT,_⟩:=x.obj
 exact Fc hT hdT
end
theorem US {M:Model}{A:Around}{E:Value->Shared->Prop}{s:Shared}{base:Heap}{env:Env}{outer:List Env}{L e T:Addr}{cls a0 fl:Value}{oe oT:Obj}{vs ts:Array Value}{Q:Unit->Shared->Prop}
  (hfr:A.frames=some (env::outer))(hf:env.frame=some L)(ha:s.heap.get? e=some oe)(hd:oe.data= .fields vs)(h1:vs[1]?=some (.ref T))(hT:s.heap.get? T=some oT)(hdT:oT.data= .fields ts)(h3:ts[3]?=some fl)
  (hfl:Heap.FlyingW base (env::outer) e cls a0 (QR s.heap T))
  (hQ:∀h',Heap.FlyingW base outer e cls a0 h'->(QR s.heap T).UpToSlots h'->Q () {s with heap:=h'}):wpAny M A (leaving env (.ref e)) Q E s:=by
 have hsz:3<ts.size:=(Array.getElem?_eq_some_iff.mp h3).1
 unfold leaving
 refine wpAny_bind ?_
 unfold noteFrame
 simp only[hf]
 refine wpAny_bind (wpAny_field ha hd h1 ?_)
 rw[if_pos (show(Value.ref T !=Value.none)=true from by simp)]
 refine wpAny_bind (wpAny_field hT hdT h3 ?_)
 by_cases hb:(fl==rawInt L)=true
 ·rw[if_pos hb]
  refine wpAny_pure ?_
  unfold setFlight
  refine wpAny_bind (wpAny_field ha hd h1 ?_)
  rw[if_pos (show(Value.ref T !=Value.none)=true from by simp)]
  refine wpAny_setField hT hdT hsz ?_
  obtain⟨k1,k2,⟨_,_,k3⟩,k4⟩:=hfl
  exact hQ _ ⟨k1,k2,k3,k4⟩ (Heap.UpToSlots.refl _)
 ·rw[if_neg hb]
  refine wpAny_bind (wpAny_setField hT hdT hsz ?_)
  obtain⟨f1,f2,f3,f4⟩:=hfl
  obtain⟨oe',vs',T',oT',ts',he',⟨hcls',h0'⟩,hd',h1',_⟩:=f4
  subst hcls'
  refine wpAny_entryW (s:={s with heap:=QR s.heap T}) hfr f3 hf he' f1 f2 hd' (Array.getElem?_eq_some_iff.mp h1').1 h0' λh' ⟨x1,x2,x3,x4⟩=>?_
  refine wpAny_landsW (base:=base) (l:=env::outer) (L:=L) ⟨x1,f2,x2,x3⟩ λh'' k up=>?_
  obtain⟨k1,k2,⟨_,_,k3⟩,k4⟩:=k
  exact hQ h'' ⟨k1,k2,k3,k4⟩ (Heap.UpToSlots.trans x4 up)
noncomputable def UP (X:Cx)(E:XK):Prop:=∀ (pins:List (Addr×Obj)) (σ:St) (H:Hp) (s:Shared) (a T C:Addr) (fl:Value),Inv X pins σ H s->FlA X.s₀.heap s.heap H a T (.ref C) fl->
 (∀b∈[a,T],X.s₀.heap.get? b=none/\b≠X.env.locals/\(∀x c,X.env.cells.lookup x=some c->c≠b)/\∀p∈X.pn++pins,p.1≠b)->E (.ref C) none H->X.xe (.ref a) s
section
variable {P:Program}{w:World}{K:PySem.W.Frag}{mg:Str->Option Value}{base:Heap}{N:List Str}{qual:Str}{scope:Scope}{f:Addr}{cd:Value}{A:Around}{outer:List Env}{s0:Shared}{H0:Hp}{E:XK}
theorem HY:UP (KS (CXE P w) P w K mg base N qual scope f cd A outer s0 H0 E) E:=by
 intro pins σ H s a T C fl I x ch q
 have I2:=I.past (h':=QR s.heap T) (Un.traced I.stack (λb o _ _ n e=>(YM b n).trans e) x.up) (I.hok.traced I.stkFree x.fa x.fT λb o _ _ n e=>(YM b n).trans e) ch
 obtain⟨oe,vs,oT,ts,a0,ha,hc,h0',hd,h1,hT,hdT,h3⟩:=x.obj
 have x0:=x.calm
 obtain⟨a0',fl'⟩:=x0.fly I2.stack
 refine US I.ok.frames rfl ha hd h1 hT hdT h3 fl' λh' k up=>?_
 obtain⟨T',y1,y2,y3⟩:=x0.after I2.stack I2.stkFree I2.hok (λb o e=>I2.base.there b o e (λz=>nomatch z)) k.1 k.2.2.2 up
 refine⟨a,T',C,H,rfl,y1,I2.os,I2.bare,I2.base.past y3 (λb hb=>?_) λb hb=>?_,y2,q⟩
 ·rcases List.mem_cons.mp hb with z |z
  ·rw[z];exact x0.na
  ·rw[List.mem_singleton.mp z];exact x0.nT
 ·rcases List.mem_cons.mp (I2.stkSub b hb) with z |z
  ·exact .inr (z▸Heap.get?_none_of_le I.ok.above)
  ·exact .inl z
end
theorem Un.but {fs ch:List Addr}{H:Hp}{h h':Heap}(k:∀b,b∉ch->h'.get? b=h.get? b):Un fs ch H H h h' where
 keep:=λb o e _ _ hx=>(k b hx).trans e
 slot:=λb o e _ _ hx=>⟨o.slots,(k b hx).trans e⟩
 free:=λ_ _ _ n _=>n
 there:=λb o e hx=>⟨o,(k b hx).trans e⟩
 tups:=λ_ _ q=>q
 frzs:=λ_ _ _ q=>q
 tbls:=λ_ ps q=>⟨#[],by simpa using q⟩
section
variable {X:Cx}{pins:List (Addr×Obj)}{σ:St}{H:Hp}{s:Shared}{N:List Str}{scope:Scope}{cl:List (Str×Addr)}{C:Addr}{fp:List Addr}{Q:Value->Shared->Prop}{acc:Value}{E:XK}
theorem F4 (hp:UP X E)(hst:X.stack=X.env::X.outer)(hex:X.ex=[])(hfr:X.env.frame=some X.env.locals)(I:Inv X pins σ H s)(hf:∀b∈fp,Ke X pins H b)(hC:s.heap.objs.size<C):
  QF (CXE X.prog X.w) (X.comp N scope cl C s H fp (notedBy (model X.prog X.w) X.A (compEnvC scope cl C X.env) λe s'=>compPost (model X.prog X.w) X.A X.xe none Q acc C (.error e) s')) E:=by
 intro pins1 σ1 H1 s1 e s' I1 ⟨a,T,C0,H',he,x,os,bare,un,hok,q⟩
 subst he
 have I2:=I1.call' os un hok bare (λb z=>nomatch z)
 have X1:Inv X pins σ H1 s1:=I.call' (ch:=fp) I1.os I1.base I1.hok I1.bare λb hb=>have z:=hf b hb;⟨z.2.2.2.1,z.2.1,z.2.2.2.2.1,z.2.2.2.2.2⟩
 have X2:Inv X pins σ H' s':=I.call' (ch:=fp) I2.os I2.base I2.hok I2.bare λb hb=>have z:=hf b hb;⟨z.2.2.2.1,z.2.1,z.2.2.2.2.1,z.2.2.2.2.2⟩
 have q1:∀b,s1.heap.get? b=none->X.s₀.heap.get? b=none/\b≠X.env.locals/\(∀y c,X.env.cells.lookup y=some c->c≠b)/\∀p∈X.pn++pins,p.1≠b:=λb nb=>by
  refine⟨?_,λz=>?_,λy c hy z=>?_,λp hp z=>?_⟩
  ·cases q:X.s₀.heap.get? b with
   |none=>rfl
   |some o=>obtain⟨o',e⟩:=X1.base.there b o q (by rw[hex];simp);rw[nb] at e;cases e
  ·obtain⟨m,⟨o,es,ep,ho,_⟩,_⟩:=X1.loc
   have ho':s1.heap.get? X.env.locals=some o:=ho
   rw[←z,nb] at ho';cases ho'
  ·obtain⟨v,o,ho,_⟩:=X1.cell y c hy
   rw[z,nb] at ho;cases ho
  ·obtain⟨e,_⟩:=X1.pin p hp
   rw[z,nb] at e;cases e
 have hl:s'.heap.FunFrames X.base (X.env::X.outer):=hst▸X2.stack
 have hfn:∀b∈frs (X.env::X.outer),H' b=none:=hst▸X2.stkFree
 have hA:X.A.frames=some (X.env::X.outer):=hst▸I.ok.frames
 obtain⟨a0,fl⟩:=x.fly hl
 show wpAny _ _ (noteFrame (.ref a) X.env) _ _ s'
 refine wpAny_looks_onW hA hfr fl λh2 hd2 up2=>?_
 obtain⟨st2,_,_,oe,vs,T2,oT,ts,ha,⟨hc,h0'⟩,hd,h1,hbT,hTa,hT,hdT,h3⟩:=hd2
 have hsz:3<ts.size:=(Array.getElem?_eq_some_iff.mp h3).1
 have st3:(Dn s'.heap (frs (X.env::X.outer)) a T).StaysIn (QR h2 T2):=λb o e=>(YM b λz=>by rw[z,hbT] at e;cases e).trans (st2 b o e)
 have ha3:(QR h2 T2).get? a=some oe:=(YM a (Ne.symm hTa)).trans ha
 obtain⟨T3,x3,hok3,un3⟩:=x.after hl hfn hok (λb o e=>un.there b o e (λz=>nomatch z)) st3
  ⟨oe,vs,T2,_,_,ha3,⟨hc,h0'⟩,hd,h1,hbT,hTa,Heap.get?_update_self _ hT (Obj.isFreed_of_fields (Obj.data_mapFields hdT _)),Obj.data_mapFields hdT _,by simp[hsz]⟩ (Heap.UpToSlots.trans up2 (Fc hT hdT))
 have eT:T3=T2:=by
  obtain⟨oe',vs',oT',ts',a0',ha',hc',h0'',hd',h1',_⟩:=x3.obj
  rw[ha3] at ha';cases ha'
  rw[hd] at hd';cases hd'
  rw[h1] at h1';cases h1';rfl
 subst eT
 have J3:Inv X pins σ H' {s' with heap:=QR h2 T3}:=X2.past (by rw[hst];exact un3) hok3 λb hb=>by
  rcases List.mem_cons.mp hb with z |z
  ·rw[z];exact q1 a x.na
  ·rw[List.mem_singleton.mp z];exact q1 T x.nT
 obtain⟨m,hns,_⟩:=id I2.loc
 have hns2:h2.Ns C m:=up2.ns hns
 refine⟨m,hns2,λh' sb cenv _=>?_⟩
 have fC:H' C=none:=I2.free
 have okC:Ke X pins H' C:=I.fpOk (Nat.le_of_lt hC) fC
 obtain⟨oC,esC,epC,hoC,hdC,_⟩:=id hns2
 have hTC:T3≠C:=λz=>by rw[z,hoC] at hT;cases hT;rw[hdC] at hdT;cases hdT
 have haC:a≠C:=λz=>by
  obtain⟨m1,⟨o1,_,_,ho1,_⟩,_⟩:=id I1.loc
  have ho1':s1.heap.get? C=some o1:=ho1
  rw[←z,x.na] at ho1';cases ho1'
 have oth:∀b,b≠C->h'.get? b=h2.get? b:=sb.2
 have hT':h'.get? T3=some oT:=(oth T3 hTC).trans hT
 have ha':h'.get? a=some oe:=(oth a haC).trans ha
 unfold PySem.passOn
 refine wpAny_bind (wpAny_field (s:={s' with heap:=h'}) ha' hd h1 ?_)
 rw[if_neg (show ¬((Value.ref T3==Value.none)=true) from by simp)]
 refine wpAny_bind ?_
 unfold setFlight
 refine wpAny_bind (wpAny_field (s:={s' with heap:=h'}) ha' hd h1 ?_)
 rw[if_pos (show(Value.ref T3 !=Value.none)=true from by simp)]
 refine wpAny_setField (s:={s' with heap:=h'}) hT' hdT hsz (wpAny_throw ?_)
 have ot4:∀b,b∉ [T3,C]->(h'.update T3 (Obj.mapFields (·.setIfInBounds 3 (cenv.frame.elim Value.none λf=>rawInt f)))).get? b=(QR h2 T3).get? b:=λb hb=>by
  have n1:b≠T3:=λz=>hb (by simp[z])
  have n2:b≠C:=λz=>hb (by simp[z])
  rw[Heap.get?_update_other _ _ (Ne.symm n1),oth b n2,YM b n1]
 have hok4:HOk X.prog X.w H' (h'.update T3 (Obj.mapFields (·.setIfInBounds 3 (cenv.frame.elim Value.none λf=>rawInt f)))):=λb o e=>by
  refine(hok3 b o e).stay (λc u hc' q'=>?_) (λ_ q=>q) λ_ _ q=>q
  have hn:H' c≠none:=by
   rcases hc' with z |z
   ·rw[z,e];exact λy=>nomatch y
   ·rw[z];exact λy=>nomatch y
  exact(ot4 c λz=>by
   rcases List.mem_cons.mp z with z |z
   ·exact hn (z▸x3.fT)
   ·exact hn (List.mem_singleton.mp z▸fC)).trans q'
 have J4:=J3.past (Un.but ot4) hok4 λb hb=>by
  rcases List.mem_cons.mp hb with z |z
  ·rw[z];exact q1 T3 x3.nT
  ·rw[List.mem_singleton.mp z]
   exact⟨okC.2.2.2.1.elim (λz=>by rw[hex] at z;cases z) Heap.get?_none_of_le,okC.2.1,okC.2.2.2.2.1,okC.2.2.2.2.2⟩
 refine hp pins σ H' _ a T3 C0 _ J4 ⟨(q1 a x.na).1,(q1 T3 x3.nT).1,x3.fa,x3.fT,hTa,oe,vs,_,_,a0,(Heap.get?_update_other _ _ hTa).trans ha',hc,h0',hd,h1,Heap.get?_update_self _ hT' (Obj.isFreed_of_fields (Obj.data_mapFields hdT _)),Obj.data_mapFields hdT _,by simp[hsz];rfl⟩ (λb hb=>?_) q
 rcases List.mem_cons.mp hb with z |z
 ·rw[z];exact q1 a x.na
 ·rw[List.mem_singleton.mp z];exact q1 T3 x3.nT
end
section
variable {X:Cx}{elt tg iter:Expr}{ifs:List Expr}{scope:Scope}{pos:Pos}{wi:TI}{g:TG}{tt:TT}{te:TE}{E':XK}
theorem Cn {sc:Scope}{N0:List Str}{tns:List Str}{caps:List (Nat×Str)}(hp:UP X E')(hc:X.calm=true)(hi:PI X tg iter wi)(hG:VA tns.length g)
  (hb:∀cl C s H ex E,QF (CXE X.prog X.w) (X.comp (tns++caps.map (·.2)) scope cl C s H ex E) E'->PG (X.comp (tns++caps.map (·.2)) scope cl C s H ex E) tg g/\PTs (X.comp (tns++caps.map (·.2)) scope cl C s H ex E) ifs tt/\PE (X.comp (tns++caps.map (·.2)) scope cl C s H ex E) elt te)
  (hst:X.stack=X.env::X.outer:=by rfl)(hex:X.ex=[]:=by rfl)(hfr:X.env.frame=some X.env.locals:=by rfl)
  (hsc:X.env.scope=sc:=by rfl)(hN0:X.N=N0:=by rfl)(ok:JT sc scope N0 tns caps=true:=by decide+kernel)
  (hs:∀x,foldedSetIterable iter X.env x=pure x:=by intro _;rfl):
  PE X (.ListComp elt [⟨tg,iter,ifs,0⟩] scope pos) (Gv tns.length caps wi g tt te):=by
 intro pins s0 σ H0 Q I0 h0
 have okc:=COk.of hsc hN0 ok
 obtain⟨cl,ecl,hsub,hall⟩:=UT (scope:=scope) (env:=X.env) λx hx hfr=>I0.ok.has x.1 (.inl (okc.free x hx hfr))
 rw[eval_ListComp]
 refine wpAny_comprehension_free (use:=none) rfl hs ecl okc.kind okc.loc (thn (hi pins s0 σ H0 _ I0 h0) λxv s₁ h₁=>thn h₁ λitv s ⟨it,fp,tn,J,H,e,I,T,t0,hf,W,⟨m0,w0⟩,turn⟩=>?_)
 subst e
 refine wpAny_newObj_type (wpAny_newFunctionEnv okc.cell (by intro y hy;simp at hy) (λh₁ hns hsb₁=>?_) okc.kind)
 have hsz:∀o,(s.heap.push o).objs.size=s.heap.objs.size+1:=λo=>Heap.size_push ..
 have hC:s.heap.objs.size<(s.heap.push {cls:=.type "list",dict:=none,data:=.seq ([]:List Value).toArray}).objs.size:=Nat.lt_of_lt_of_eq (Nat.lt_succ_self _) (hsz _).symm
 generalize hCe:(s.heap.push {cls:=.type "list",dict:=none,data:=.seq ([]:List Value).toArray}).objs.size=C at hC hns hsb₁⊢
 have old:∀b o,s.heap.get? b=some o->h₁.get? b=some o:=λb o e=>hsb₁.extBut b o (Nat.ne_of_lt (Nat.lt_trans (Heap.lt_size e) hC)) (Heap.get?_push_of_some _ (Heap.get?_push_of_some _ e))
 have hacc:h₁.get? s.heap.objs.size=some (lob [] 0):=hsb₁.extBut _ _ (Nat.ne_of_lt hC) (Heap.get?_push_of_some _ (Heap.get?_push_size _ rfl))
 have hlt:∀b∈fp,b<s.heap.objs.size:=λb hb=>(T.obj _ _ t0 b hb).elim λo e=>Heap.lt_size e.1
 have okY:∀E,(X.comp (tns++caps.map (·.2)) scope cl C s H fp E).Ok:=λE=>G4 okc I hf hlt hsub hall hC
 have t1:tn 0 h₁:=T.keep _ _ _ t0 λb _ o e=>old b o e
 have z:=hb cl C s H fp (notedBy (model X.prog X.w) X.A (compEnvC scope cl C X.env) λe s'=>compPost (model X.prog X.w) X.A X.xe none (EP X pins σ Q) (.ref s.heap.objs.size) C (.error e) s') (F4 hp hst hex hfr I hf hC)
 have loop:∀tk,codeAny (model X.prog X.w) X.A (.compLoop (.ListComp elt [⟨tg,iter,ifs,0⟩] scope pos) 0 (.ref it) (.ref s.heap.objs.size) (compEnvC scope cl C X.env)) (compPost (model X.prog X.w) X.A X.xe none (EP X pins σ Q) (.ref s.heap.objs.size) C) {s with heap:=h₁,toks:=tk}:=λtk=>
  JX (Y:=X.comp (tns++caps.map (·.2)) scope cl C s H fp _) rfl T hG z.1 z.2.1 z.2.2
   ⟨hc,rfl,Nat.ne_of_lt hC,λhz=>(I.stack.mem hz).2.elim λo ho=>absurd (Heap.lt_size ho.1) (Nat.lt_irrefl _),Nat.le_refl _,λx c e=>(I.cell x c (hsub x c e)).elim λv z=>Nat.ne_of_lt z.lt,λb hb=>Nat.ne_of_lt (hlt b hb),
    λb hb H' h'=>⟨h',Nat.ne_of_lt (Nat.lt_trans (hlt b hb) hC),(okY λ_ _=>True).exfs b hb, .inl hb,λx c e=>(hf b hb).2.2.2.2.1 x c (hsub x c e),λp hp=>Uy (α:=Addr×Obj) hp⟩⟩
   (λj v e=>(Jq e).1) turn (λys its k H3 s4 I4 rv hz q=>by
    have ce:=KG I hf (Nat.le_refl _) hC I4 I4.os I4.base I4.hok rfl rv hz
    exact ce.ns.elim λmm hns=>⟨mm,hns,λh' hs'=>⟨.ref s.heap.objs.size,_,ce.inv.turned (t':=s4.toks) (λb o hb' e=>(hs'.extBut b o hb' e)) ce.fp.1 ce.fp.2.1 ce.fp.2.2.2.1 ce.fp.2.2.2.2.1 ce.fp.2.2.2.2.2,rfl,q⟩⟩)
   (.mk 0 H [] [] 0 ⟨Kr okc rfl (okY _) I hsub hall hC hns old,t1,λb hb=>(hf b hb).1,hacc,I.hok.fresh (Nat.le_refl _)⟩ .nil w0)
 exact codeAny_compStart_list (loop _) (T.self _ 0 _ _ _ t1 (loop _))
end
end L2
namespace My
open PySem L2
noncomputable abbrev XB:List Str:=["PlaitError","TooBig","NoFit","NoLine"]
noncomputable def X4 (a_0:(List Int))(a_1:Int):Rs Bool:=(Rs.bind (Rs.bind (Rs.ok a_0) λx5=>(JK x5 (λa3=>(Rs.bind (Rs.ok (0:Int)) λx6=>(Rs.bind (Rs.ok a3) λx7=>(if(decide (x6<=x7))=true then(Rs.bind (Rs.ok a_1) λx8=>(Rs.ok (decide (x7<x8)))) else Rs.ok false)))))) λx9=>(Rs.ok (x9.all id)))
noncomputable def XN (a_0:(List Int)):Rs Str:=(Rs.bind (Rs.ok (" ":Str)) λx1=>(Rs.bind (Rs.bind (Rs.ok a_0) λx5=>(JK x5 (λa3=>(Rs.bind (Rs.ok a3) λx7=>(chk (x7.natAbs.log2<1920) (Rs.ok (sI x7))))))) λx8=>(chk ((x8.map (·.length)).sum+x8.length*x1.length<=16777216) (Rs.ok (Txt.join x1 x8)))))
noncomputable def Yu (a_0:(List (List Int))):Rs Str:=(Rs.bind (Rs.ok (" / ":Str)) λx1=>(Rs.bind (Rs.bind (Rs.ok a_0) λx5=>(JK x5 (λa3=>(Rs.bind (Rs.ok a3) λx7=>(noE (XN x7)))))) λx8=>(chk ((x8.map (·.length)).sum+x8.length*x1.length<=16777216) (Rs.ok (Txt.join x1 x8)))))
noncomputable def Yv (a_0:Str):Rs (List Str):=(Rs.bind (Rs.bind (Rs.ok a_0) λx1=>(Rs.bind (Rs.ok ("":Str)) λx2=>(Rs.ok (!(decide (x1=x2)))))) λx5=>(if x5=true then(Rs.bind (Rs.ok a_0) λx3=>(Rs.bind (Rs.ok (" ":Str)) λx4=>(chk ((x4.length==0)=false/\x3.length<=sizeLine/\(Txt.split x3 x4).length<=sizeLine) (Rs.ok (Txt.split x3 x4))))) else(Rs.ok [])))
noncomputable def XE (a_0:Str):Rs Int:=(Rs.bind (Rs.bind (Rs.bind (Rs.ok a_0) λx3=>(Rs.bind (Rs.ok ("-":Str)) λx4=>(Rs.ok (Txt.startswith x3 x4)))) λx9=>(if x9=true then(Rs.bind (Rs.ok a_0) λx6=>(Rs.bind (Rs.bind (Rs.ok (1:Int)) λx5=>(Rs.ok (some x5))) λx7=>(Rs.bind (Rs.ok none) λx8=>(chk (x6.length<=sizeLine) (Rs.ok (Txt.slice x6 x7 x8)))))) else(Rs.ok a_0))) λa1=>(Rs.bind (orR (Rs.bind (Rs.bind (Rs.ok a1) λx10=>(Rs.ok (Txt.isdigit x10))) λx11=>(Rs.ok (!x11))) (Rs.bind (Rs.bind (Rs.ok a1) λx12=>(chk (x12.length<=sizeLine) (Rs.ok (x12.length:Int)))) λx13=>(Rs.bind (Rs.ok (18:Int)) λx14=>(Rs.ok (decide (x14<x13)))))) λx15=>(if x15=true then(Rs.bind (Rs.bind (Rs.ok a_0) λx16=>(chk ((reprText x16).length<=2000) (Rs.ok ()))) λ_=>(Rs.err ⟨"NoLine",Pay.non⟩)) else(Rs.bind (Rs.bind (Rs.ok a_0) BB) λa18=>(Rs.bind (Rs.bind (Rs.bind (Rs.ok a18) λx20=>(chk (x20.natAbs.log2<1920) (Rs.ok (sI x20)))) λx21=>(Rs.bind (Rs.ok a_0) λx22=>(Rs.ok (!(decide (x21=x22)))))) λx23=>(if x23=true then(Rs.bind (Rs.bind (Rs.ok a_0) λx24=>(chk ((reprText x24).length<=2000) (Rs.ok ()))) λ_=>(Rs.err ⟨"NoLine",Pay.non⟩)) else(Rs.ok a18)))))))
noncomputable def Yj (a_0:Str):Rs (List (List Int)):=(Rs.bind (Rs.bind (Rs.bind (Rs.ok []) λx5=>(Rs.bind (Rs.ok []) λx6=>(Rs.ok (x5::x6)))) λx4=>(chk (x4.length<=sizeLine) (Rs.ok x4))) λa1=>(Rs.bind (Rs.bind (Rs.ok a_0) λx8=>(noE (Yv x8))) λx53=>(Rs.bind (forN x53 (a1) (λg11 a13=>(Rs.bind (Rs.bind (Rs.bind (Rs.ok a13) λx15=>(Rs.bind (Rs.ok ("/":Str)) λx16=>(Rs.ok (decide (x15=x16))))) λx17=>(if x17=true then(Rs.bind (Rs.ok []) λa20=>(chk (g11.length<sizeLine) ((λa22=>(Rs.ok (a22))) (g11++[a20])))) else(Rs.bind (Rs.bind (Rs.ok (1:Int)) λx24=>(Rs.ok (-x24))) λx26=>(Rs.bind (atR g11 x26) λx27=>(Rs.bind (Rs.bind (Rs.ok a13) λx23=>(XE x23)) λx25=>(chk (x27.length<sizeLine) (Rs.bind (Qa g11 x26 (x27++[x25])) λa28=>(Rs.ok (a28))))))))) λg31=>(Rs.ok (g31))))) λg32=>(Rs.bind (Rs.bind (Rs.ok g32) λx36=>(Rs.ok (x36.length:Int))) λa34=>(Rs.bind (orR (Rs.bind (Rs.ok a34) λx37=>(Rs.bind (Rs.ok (24:Int)) λx38=>(Rs.ok (decide (x38<x37))))) (Rs.bind (Rs.bind (Rs.bind (Rs.ok g32) λx42=>(JK x42 (λa40=>(JH (Rs.bind (Rs.bind (Rs.ok a40) λx43=>(Rs.ok (x43.length:Int))) λx44=>(Rs.bind (Rs.ok a34) λx45=>(Rs.ok (decide (x44=x45))))) (Rs.bind (Rs.ok a40) λx47=>(Rs.bind (Rs.ok a34) λx48=>(noE (X4 x47 x48)))))))) λx49=>(Rs.ok (x49.all id))) λx50=>(Rs.ok (!x50)))) λx51=>(if x51=true then(Rs.bind (Rs.ok ()) λ_=>(Rs.err ⟨"NoLine",Pay.non⟩)) else(Rs.ok g32)))))))
noncomputable def XV (a_0:Str):Rs (List Int):=(Rs.bind (Rs.bind (Rs.ok a_0) λx2=>(noE (Yv x2))) λx6=>(JK x6 (λa4=>(Rs.bind (Rs.ok a4) λx7=>(XE x7)))))
noncomputable def Jv (a_0:(List Int))(a_1:Int):Rs Int:=(Rs.bind (Rs.bind (Rs.ok a_1) λx2=>(Rs.bind (Rs.bind (Rs.ok a_0) λx1=>(Rs.ok (x1.length:Int))) λx3=>(Rs.ok (decide (x2<x3))))) λx4=>(if x4=true then(Rs.bind (Rs.ok a_0) λx5=>(Rs.bind (Rs.ok a_1) λx6=>(atR x5 x6))) else(Rs.bind (Rs.ok (5:Int)) λa7=>(Rs.bind (Rs.bind (Rs.ok a_0) λx10=>(Rs.bind (Rs.ok none) λx11=>(Rs.bind (Rs.bind (Rs.ok (63:Int)) λx9=>(Rs.ok (some x9))) λx12=>(Rs.ok (GG x10 x11 x12))))) λx39=>(Rs.bind (forN x39 (a7) (λg15 a17=>(Rs.bind (Rs.bind (Rs.bind (Rs.bind (Rs.bind (Rs.ok g15) λx21=>(Rs.bind (Rs.ok (48271:Int)) λx22=>(JC x21 x22))) λx25=>(Rs.bind (Rs.bind (Rs.ok a17) λx23=>(Rs.bind (Rs.ok (1000003:Int)) λx24=>(Qo x23 x24))) λx26=>(Rs.ok (x25+x26)))) λx27=>(Rs.bind (Rs.ok (1:Int)) λx28=>(Rs.ok (x27+x28)))) λx29=>(Rs.bind (Rs.ok (2147483647:Int)) λx30=>(Qo x29 x30))) λa19=>(Rs.ok (a19))))) λg31=>(Rs.bind (Rs.bind (Rs.ok g31) λx35=>(Rs.bind (Rs.bind (Rs.ok (7919:Int)) λx33=>(Rs.bind (Rs.ok a_1) λx34=>(JC x33 x34))) λx36=>(Rs.ok (x35+x36)))) λx37=>(Rs.bind (Rs.ok (1000003:Int)) λx38=>(Qo x37 x38))))))))
noncomputable def Ka (a_0:Int)(a_1:Int):Rs Int:=(Rs.bind (Rs.bind (Rs.bind (Rs.bind (Rs.bind (Rs.bind (Rs.ok a_0) λx3=>(Rs.bind (Rs.ok (2147483629:Int)) λx4=>(Qo x3 x4))) λx7=>(Rs.bind (Rs.bind (Rs.ok (1013:Int)) λx5=>(Rs.bind (Rs.ok a_1) λx6=>(JC x5 x6))) λx8=>(Rs.ok (x7+x8)))) λx9=>(Rs.bind (Rs.ok (7919:Int)) λx10=>(Rs.ok (x9+x10)))) λx11=>(Rs.bind (Rs.ok (3:Int)) λx12=>(GJ x11 x12))) λx13=>(Rs.bind (Rs.ok (2147483647:Int)) λx14=>(Qo x13 x14))) λa1=>(Rs.bind (Rs.bind (Rs.bind (Rs.bind (Rs.bind (Rs.ok a1) λx17=>(Rs.bind (Rs.ok (40699:Int)) λx18=>(JC x17 x18))) λx23=>(Rs.bind (Rs.bind (Rs.bind (Rs.ok (3793:Int)) λx19=>(Rs.bind (Rs.ok a_1) λx20=>(JC x19 x20))) λx21=>(Rs.bind (Rs.ok a_1) λx22=>(JC x21 x22))) λx24=>(Rs.ok (x23+x24)))) λx25=>(Rs.bind (Rs.ok (11:Int)) λx26=>(Rs.ok (x25+x26)))) λx27=>(Rs.bind (Rs.ok (2147483399:Int)) λx28=>(Qo x27 x28))) λa15=>(Rs.bind (Rs.ok a15) λx29=>(Rs.bind (Rs.ok (101:Int)) λx30=>(EH x29 x30)))))
noncomputable def JF (a_0:(List Int))(a_1:Int)(a_2:(List Int)):Rs (List Int):=(Rs.bind (Rs.bind (Rs.ok a_0) λx4=>(Rs.bind (Rs.ok a_1) λx5=>(noE (Jv x4 x5)))) λa1=>(Rs.bind (Rs.ok a1) λa6=>(Rs.bind (Rs.ok []) λa8=>(Rs.bind (Rs.bind (Rs.bind (Rs.ok a_2) λx11=>(Rs.ok (x11.length:Int))) λx12=>(GF 0 x12)) λx81=>(Rs.bind (forN x81 (a8,a6) (λg15 a17=>(Rs.bind (Rs.bind (Rs.bind (Rs.ok a1) λx21=>(Rs.bind (Rs.bind (Rs.ok (10:Int)) λx19=>(Rs.bind (Rs.ok (18:Int)) λx20=>(GJ x19 x20))) λx22=>(Rs.ok (decide (x21<x22))))) λx23=>(if x23=true then(Rs.bind (Rs.bind (Rs.bind (Rs.ok a1) λx27=>(Rs.bind (Rs.ok a17) λx28=>(noE (Ka x27 x28)))) λx31=>(Rs.bind (Rs.bind (Rs.ok a_2) λx29=>(Rs.bind (Rs.ok a17) λx30=>(atR x29 x30))) λx32=>(Qo x31 x32))) λa33=>(chk (g15.1.length<sizeLine) ((λa35=>(Rs.ok (a35,g15.2))) (g15.1++[a33])))) else(Rs.bind (Rs.bind (Rs.bind (Rs.ok g15.2) λx36=>(Rs.bind (Rs.ok (0:Int)) λx37=>(Rs.ok (decide (x37<x36))))) λx38=>(if x38=true then(Rs.bind (Rs.bind (Rs.ok g15.2) λx43=>(Rs.bind (Rs.bind (Rs.ok a_2) λx41=>(Rs.bind (Rs.ok a17) λx42=>(atR x41 x42))) λx44=>(Qo x43 x44))) λa45=>(chk (g15.1.length<sizeLine) ((λa47=>(Rs.bind (Rs.bind (Rs.ok g15.2) λx52=>(Rs.bind (Rs.bind (Rs.ok a_2) λx50=>(Rs.bind (Rs.ok a17) λx51=>(atR x50 x51))) λx53=>(EH x52 x53))) λa48=>(Rs.ok (a48,a47)))) (g15.1++[a45])))) else(Rs.bind (Rs.bind (Rs.ok a_0) λx63=>(Rs.bind (Rs.bind (Rs.bind (Rs.bind (Rs.ok a_1) λx57=>(Rs.bind (Rs.ok (1:Int)) λx58=>(Rs.ok (x57+x58)))) λx59=>(Rs.bind (Rs.ok a17) λx60=>(Rs.ok (x59+x60)))) λx61=>(Rs.bind (Rs.ok (63:Int)) λx62=>(Qo x61 x62))) λx64=>(noE (Jv x63 x64)))) λa54=>(Rs.bind (Rs.bind (Rs.bind (Rs.ok a54) λx66=>(Rs.bind (Rs.ok a17) λx67=>(noE (Ka x66 x67)))) λx70=>(Rs.bind (Rs.bind (Rs.ok a_2) λx68=>(Rs.bind (Rs.ok a17) λx69=>(atR x68 x69))) λx71=>(Qo x70 x71))) λa72=>(chk (g15.1.length<sizeLine) ((λa74=>(Rs.ok (g15.2,a74))) (g15.1++[a72]))))))) λg76=>(Rs.ok (g76.2,g76.1))))) λg78=>(Rs.ok (g78.1,g78.2))))) λg79=>(Rs.ok g79.1))))))
noncomputable def Zb (a_0:Int)(a_1:Int)(a_2:Int)(a_3:Int)(a_4:Int):Rs Int:=(Rs.bind (Rs.bind (Rs.ok a_1) λx3=>(Rs.bind (Rs.ok (2:Int)) λx4=>(EH x3 x4))) λa1=>(Rs.bind (Rs.bind (Rs.ok a_0) λx5=>(Rs.bind (Rs.ok (1:Int)) λx6=>(Rs.ok (decide (x5=x6))))) λx7=>(if x7=true then(Rs.bind (Rs.bind (Rs.bind (Rs.ok (2:Int)) λx8=>(Rs.bind (Rs.ok a_4) λx9=>(JC x8 x9))) λx10=>(Rs.bind (Rs.ok a_3) λx11=>(Rs.ok (x10-x11)))) λx12=>(Rs.bind (Rs.ok a_1) λx13=>(Qo x12 x13))) else(Rs.bind (Rs.bind (Rs.ok a_0) λx14=>(Rs.bind (Rs.ok (2:Int)) λx15=>(Rs.ok (decide (x14=x15))))) λx16=>(if x16=true then(Rs.bind (Rs.bind (Rs.bind (Rs.ok a_2) λx17=>(Rs.bind (Rs.ok a_3) λx18=>(JC x17 x18))) λx23=>(Rs.bind (Rs.bind (Rs.bind (Rs.ok (1:Int)) λx19=>(Rs.bind (Rs.ok a_2) λx20=>(Rs.ok (x19-x20)))) λx21=>(Rs.bind (Rs.ok a_4) λx22=>(JC x21 x22))) λx24=>(Rs.ok (x23+x24)))) λx25=>(Rs.bind (Rs.ok a_1) λx26=>(Qo x25 x26))) else(Rs.bind (JH (Rs.bind (Rs.ok a_0) λx27=>(Rs.bind (Rs.ok (3:Int)) λx28=>(Rs.ok (decide (x27=x28))))) (JH (Rs.bind (Rs.ok a_1) λx29=>(Rs.bind (Rs.ok (2:Int)) λx30=>(Rs.ok (decide (x30<x29))))) (JH (Rs.bind (Rs.ok a_3) λx31=>(Rs.bind (Rs.ok (2:Int)) λx32=>(Rs.ok (decide (x31<x32))))) (Rs.bind (Rs.ok a_4) λx35=>(Rs.bind (Rs.bind (Rs.ok a_1) λx33=>(Rs.bind (Rs.ok (1:Int)) λx34=>(Rs.ok (x33-x34)))) λx36=>(Rs.ok (decide (x35=x36)))))))) λx37=>(if x37=true then(Rs.bind (Rs.ok (1:Int)) λx38=>(Rs.bind (Rs.ok a_3) λx39=>(Rs.ok (x38-x39)))) else(Rs.bind (JH (Rs.bind (Rs.ok a_0) λx40=>(Rs.bind (Rs.ok (6:Int)) λx41=>(Rs.ok (decide (x40=x41))))) (JH (Rs.bind (Rs.ok a_3) λx44=>(Rs.bind (Rs.bind (Rs.ok a_1) λx42=>(Rs.bind (Rs.ok (1:Int)) λx43=>(Rs.ok (x42-x43)))) λx45=>(Rs.ok (decide (x44<x45))))) (Rs.bind (Rs.ok a_4) λx48=>(Rs.bind (Rs.bind (Rs.ok a_1) λx46=>(Rs.bind (Rs.ok (1:Int)) λx47=>(Rs.ok (x46-x47)))) λx49=>(Rs.ok (decide (x48=x49))))))) λx50=>(if x50=true then(Rs.bind (Rs.bind (Rs.ok a_3) λx51=>(Rs.bind (Rs.ok (1:Int)) λx52=>(Rs.ok (x51+x52)))) λx55=>(Rs.bind (Rs.bind (Rs.ok a_1) λx53=>(Rs.bind (Rs.ok (1:Int)) λx54=>(Rs.ok (x53-x54)))) λx56=>(Qo x55 x56))) else(Rs.bind (JH (Rs.bind (Rs.ok a_0) λx57=>(Rs.bind (Rs.ok (4:Int)) λx58=>(Rs.ok (decide (x57=x58))))) (JH (Rs.bind (Rs.ok a_3) λx59=>(Rs.bind (Rs.ok a1) λx60=>(Rs.ok (decide (x59<x60))))) (Rs.bind (Rs.ok a_4) λx61=>(Rs.bind (Rs.ok a1) λx62=>(Rs.ok (decide (x61<x62))))))) λx63=>(if x63=true then(Rs.bind (Rs.bind (Rs.bind (Rs.ok (2:Int)) λx64=>(Rs.bind (Rs.ok a_4) λx65=>(JC x64 x65))) λx66=>(Rs.bind (Rs.ok a_3) λx67=>(Rs.ok (x66-x67)))) λx68=>(Rs.bind (Rs.ok a1) λx69=>(Qo x68 x69))) else(Rs.bind (JH (Rs.bind (Rs.ok a_0) λx70=>(Rs.bind (Rs.ok (4:Int)) λx71=>(Rs.ok (decide (x70=x71))))) (JH (Rs.bind (Rs.ok a_3) λx72=>(Rs.bind (Rs.ok a1) λx73=>(Rs.ok (decide (x73<=x72))))) (Rs.bind (Rs.ok a_4) λx74=>(Rs.bind (Rs.ok a1) λx75=>(Rs.ok (decide (x75<=x74))))))) λx76=>(if x76=true then(Rs.bind (Rs.ok a1) λx87=>(Rs.bind (Rs.bind (Rs.bind (Rs.bind (Rs.bind (Rs.ok (2:Int)) λx77=>(Rs.bind (Rs.ok a_4) λx78=>(JC x77 x78))) λx79=>(Rs.bind (Rs.ok a_3) λx80=>(Rs.ok (x79-x80)))) λx81=>(Rs.bind (Rs.ok a1) λx82=>(Rs.ok (x81-x82)))) λx85=>(Rs.bind (Rs.bind (Rs.ok a_1) λx83=>(Rs.bind (Rs.ok a1) λx84=>(Rs.ok (x83-x84)))) λx86=>(Qo x85 x86))) λx88=>(Rs.ok (x87+x88)))) else(Rs.ok a_3))))))))))))))
noncomputable def ZP (a_0:Int)(a_1:Int):Rs Int:=(Rs.bind (Rs.bind (Rs.ok a_0) λx1=>(Rs.ok (x1.natAbs:Int))) λa3=>(Rs.bind (Rs.bind (Rs.ok a_1) λx2=>(Rs.ok (x2.natAbs:Int))) λa4=>(Rs.bind (QM (a3.natAbs+a4.natAbs+2) (a3,a4) (λg9=>(Rs.bind (Rs.ok g9.2) λx11=>(Rs.bind (Rs.ok (0:Int)) λx12=>(Rs.ok (decide (x12<x11)))))) (λg9=>(Rs.bind (Rs.ok g9.2) λa15=>(Rs.bind (Rs.bind (Rs.ok g9.1) λx13=>(Rs.bind (Rs.ok g9.2) λx14=>(Qo x13 x14))) λa16=>(Rs.ok (a15,a16)))))) λg19=>(Rs.ok g19.1))))
noncomputable def JO (a_0:Int)(a_1:Int)(a_2:Int):Rs (List (List Int)):=(Rs.bind (JH (Rs.bind (Rs.ok a_0) λx1=>(Rs.bind (Rs.ok (5:Int)) λx2=>(Rs.ok (decide (x1=x2))))) (Rs.bind (Rs.ok a_1) λx3=>(Rs.bind (Rs.ok (4:Int)) λx4=>(Rs.ok (decide (x3=x4)))))) λx5=>(if x5=true then(Rs.bind (Rs.bind (Rs.bind (Rs.bind (Rs.ok (0:Int)) λx14=>(Rs.bind (Rs.bind (Rs.ok (3:Int)) λx12=>(Rs.bind (Rs.bind (Rs.ok (1:Int)) λx10=>(Rs.bind (Rs.bind (Rs.ok (2:Int)) λx8=>(Rs.bind (Rs.ok []) λx9=>(Rs.ok (x8::x9)))) λx11=>(Rs.ok (x10::x11)))) λx13=>(Rs.ok (x12::x13)))) λx15=>(Rs.ok (x14::x15)))) λx7=>(chk (x7.length<=sizeLine) (Rs.ok x7))) λx49=>(Rs.bind (Rs.bind (Rs.bind (Rs.bind (Rs.ok (2:Int)) λx23=>(Rs.bind (Rs.bind (Rs.ok (1:Int)) λx21=>(Rs.bind (Rs.bind (Rs.ok (3:Int)) λx19=>(Rs.bind (Rs.bind (Rs.ok (0:Int)) λx17=>(Rs.bind (Rs.ok []) λx18=>(Rs.ok (x17::x18)))) λx20=>(Rs.ok (x19::x20)))) λx22=>(Rs.ok (x21::x22)))) λx24=>(Rs.ok (x23::x24)))) λx16=>(chk (x16.length<=sizeLine) (Rs.ok x16))) λx47=>(Rs.bind (Rs.bind (Rs.bind (Rs.bind (Rs.ok (3:Int)) λx32=>(Rs.bind (Rs.bind (Rs.ok (0:Int)) λx30=>(Rs.bind (Rs.bind (Rs.ok (2:Int)) λx28=>(Rs.bind (Rs.bind (Rs.ok (1:Int)) λx26=>(Rs.bind (Rs.ok []) λx27=>(Rs.ok (x26::x27)))) λx29=>(Rs.ok (x28::x29)))) λx31=>(Rs.ok (x30::x31)))) λx33=>(Rs.ok (x32::x33)))) λx25=>(chk (x25.length<=sizeLine) (Rs.ok x25))) λx45=>(Rs.bind (Rs.bind (Rs.bind (Rs.bind (Rs.ok (1:Int)) λx41=>(Rs.bind (Rs.bind (Rs.ok (2:Int)) λx39=>(Rs.bind (Rs.bind (Rs.ok (0:Int)) λx37=>(Rs.bind (Rs.bind (Rs.ok (3:Int)) λx35=>(Rs.bind (Rs.ok []) λx36=>(Rs.ok (x35::x36)))) λx38=>(Rs.ok (x37::x38)))) λx40=>(Rs.ok (x39::x40)))) λx42=>(Rs.ok (x41::x42)))) λx34=>(chk (x34.length<=sizeLine) (Rs.ok x34))) λx43=>(Rs.bind (Rs.ok []) λx44=>(Rs.ok (x43::x44)))) λx46=>(Rs.ok (x45::x46)))) λx48=>(Rs.ok (x47::x48)))) λx50=>(Rs.ok (x49::x50)))) λx6=>(chk (x6.length<=sizeLine) (Rs.ok x6))) else(Rs.bind (QM (a_1.natAbs+2) (a_2) (λg53=>(Rs.bind (Rs.bind (Rs.ok g53) λx56=>(Rs.bind (Rs.ok a_1) λx57=>(noE (ZP x56 x57)))) λx58=>(Rs.bind (Rs.ok (1:Int)) λx59=>(Rs.ok (!(decide (x58=x59))))))) (λg53=>(Rs.bind (Rs.bind (Rs.ok g53) λx62=>(Rs.bind (Rs.ok (1:Int)) λx63=>(Rs.ok (x62+x63)))) λa60=>(Rs.ok (a60))))) λg64=>(Rs.bind (Rs.ok []) λa66=>(Rs.bind (Rs.bind (Rs.ok a_1) λx69=>(GF 0 x69)) λx92=>(Rs.bind (forN x92 (a66) (λg72 a74=>(Rs.bind (Rs.bind (Rs.bind (Rs.ok a_1) λx76=>(GF 0 x76)) λx80=>(JK x80 (λa78=>(Rs.bind (Rs.ok a_0) λx82=>(Rs.bind (Rs.ok a_1) λx83=>(Rs.bind (Rs.ok g64) λx84=>(Rs.bind (Rs.ok a74) λx85=>(Rs.bind (Rs.ok a78) λx86=>(noE (Zb x82 x83 x84 x85 x86)))))))))) λa87=>(chk (g72.length<sizeLine) ((λa89=>(Rs.ok (a89))) (g72++[a87])))))) λg90=>(Rs.ok g90)))))))
noncomputable def Zz (a_0:(List Int))(a_1:Int):Rs (List Int):=(Rs.bind (Rs.bind (Rs.ok a_1) λx4=>(chk (0<=x4/\x4<=1000) (Rs.ok (ZK 0 x4)))) λa1=>(Rs.bind (Rs.ok []) λa5=>(Rs.bind (Rs.bind (Rs.ok a_1) λx8=>(GF 0 x8)) λx29=>(Rs.bind (forN x29 (a5,a1) (λg11 a13=>(Rs.bind (Rs.bind (Rs.bind (Rs.ok a_0) λx15=>(Rs.bind (Rs.ok a13) λx16=>(atR x15 x16))) λx18=>(Rs.bind (Rs.bind (Rs.ok g11.2) λx17=>(Rs.ok (x17.length:Int))) λx19=>(Qo x18 x19))) λx25=>(Rs.bind (Cq g11.2 x25) λp26=>(chk (g11.1.length<sizeLine) ((λa21 a22=>(Rs.ok (a22,a21))) p26.2 (g11.1++[p26.1]))))))) λg27=>(Rs.ok g27.1)))))
noncomputable def ZX (a_0:(List (List Int)))(a_1:(List Int)):Rs (List (List Int)):=(Rs.bind (Rs.bind (Rs.ok a_0) λx7=>(JK x7 (λa5=>(Rs.bind (Rs.ok a5) λx8=>(Rs.ok x8))))) λa1=>(Rs.bind (Rs.bind (Rs.bind (Rs.ok a_0) λx9=>(Rs.ok (x9.length:Int))) λx10=>(GF 0 x10)) λx47=>(Rs.bind (forN x47 (a1) (λg13 a15=>(Rs.bind (Rs.bind (Rs.bind (Rs.ok a_0) λx17=>(Rs.ok (x17.length:Int))) λx18=>(GF 0 x18)) λx44=>(Rs.bind (forN x44 (g13) (λg21 a23=>(Rs.bind (Rs.bind (Rs.ok a_1) λx29=>(Rs.bind (Rs.bind (Rs.bind (Rs.ok a_0) λx25=>(Rs.bind (Rs.ok a15) λx26=>(atR x25 x26))) λx27=>(Rs.bind (Rs.ok a23) λx28=>(atR x27 x28))) λx30=>(atR x29 x30))) λx35=>(Rs.bind (Rs.bind (Rs.ok a_1) λx31=>(Rs.bind (Rs.ok a15) λx32=>(atR x31 x32))) λx36=>(Rs.bind (atR g21 x36) λx40=>(Rs.bind (Rs.bind (Rs.ok a_1) λx33=>(Rs.bind (Rs.ok a23) λx34=>(atR x33 x34))) λx37=>(Rs.bind (Qa x40 x37 x35) λx41=>(Rs.bind (Qa g21 x36 x41) λa38=>(Rs.ok (a38)))))))))) λg42=>(Rs.ok (g42)))))) λg45=>(Rs.ok g45))))
noncomputable def Qz (a_0:(List Int))(a_1:Int)(a_2:Int):Rs (List (List Int)):=(Rs.bind (Rs.bind (Rs.ok a_0) λx20=>(Rs.bind (Rs.ok a_1) λx21=>(Rs.bind (Rs.bind (Rs.bind (Rs.bind (Rs.ok (7:Int)) λx13=>(Rs.bind (Rs.bind (Rs.ok (24:Int)) λx11=>(Rs.bind (Rs.bind (Rs.ok (6:Int)) λx9=>(Rs.bind (Rs.bind (Rs.ok (2:Int)) λx7=>(Rs.bind (Rs.ok []) λx8=>(Rs.ok (x7::x8)))) λx10=>(Rs.ok (x9::x10)))) λx12=>(Rs.ok (x11::x12)))) λx14=>(Rs.ok (x13::x14)))) λx6=>(chk (x6.length<=sizeLine) (Rs.ok x6))) λx4=>(Rs.bind (Rs.bind (Rs.bind (Rs.bind (Rs.ok (24:Int)) λx18=>(Rs.bind (Rs.ok []) λx19=>(Rs.ok (x18::x19)))) λx17=>(chk (x17.length<=sizeLine) (Rs.ok x17))) λx15=>(Rs.bind (Rs.ok (24:Int)) λx16=>(BU x15 x16))) λx5=>(Cy x4 x5))) λx22=>(noE (JF x20 x21 x22))))) λa1=>(Rs.bind (Rs.bind (Rs.ok (1:Int)) λx29=>(Rs.bind (Rs.bind (Rs.bind (Rs.ok a1) λx25=>(Rs.bind (Rs.ok (1:Int)) λx26=>(atR x25 x26))) λx27=>(Rs.bind (Rs.ok a_2) λx28=>(Qo x27 x28))) λx30=>(Rs.ok (x29+x30)))) λa23=>(Rs.bind (Rs.bind (Rs.bind (Rs.ok a1) λx35=>(Rs.bind (Rs.ok (0:Int)) λx36=>(atR x35 x36))) λx41=>(Rs.bind (Rs.ok a23) λx42=>(Rs.bind (Rs.bind (Rs.ok (2:Int)) λx39=>(Rs.bind (Rs.bind (Rs.ok a1) λx37=>(Rs.bind (Rs.ok (2:Int)) λx38=>(atR x37 x38))) λx40=>(Rs.ok (x39+x40)))) λx43=>(noE (JO x41 x42 x43))))) λa31=>(Rs.bind (Rs.bind (Rs.bind (Rs.ok a1) λx44=>(Rs.bind (Rs.ok (3:Int)) λx45=>(atR x44 x45))) λx46=>(Rs.bind (Rs.ok (0:Int)) λx47=>(Rs.ok (decide (x46=x47))))) λx48=>(if x48=true then(Rs.ok a31) else(Rs.bind (Rs.ok a31) λx57=>(Rs.bind (Rs.bind (Rs.bind (Rs.ok a1) λx52=>(Rs.bind (Rs.bind (Rs.ok (4:Int)) λx51=>(Rs.ok (some x51))) λx53=>(Rs.bind (Rs.ok none) λx54=>(Rs.ok (GG x52 x53 x54))))) λx55=>(Rs.bind (Rs.ok a23) λx56=>(noE (Zz x55 x56)))) λx58=>(noE (ZX x57 x58)))))))))
noncomputable def ZO (a_0:Int):Rs Bool:=(JH (Rs.bind (Rs.ok a_0) λx1=>(Rs.ok true)) (Rs.bind (Rs.bind (Rs.ok a_0) λx2=>(Rs.ok false)) λx3=>(Rs.ok (!x3))))
noncomputable def X3 (a_0:(List Int)):Rs Bool:=(Rs.bind (Rs.bind (Rs.bind (Rs.ok a_0) λx1=>(Rs.ok true)) λx2=>(Rs.ok (!x2))) λx3=>(if x3=true then(Rs.ok false) else(Rs.bind (Rs.ok a_0) λx18=>(Rs.bind (forC x18 () (λg6 a8=>(Rs.bind (Rs.bind (Rs.bind (Rs.ok a8) λx11=>(noE (ZO x11))) λx12=>(Rs.ok (!x12))) λx13=>(if x13=true then(Rs.bind (Rs.ok false) λx15=>(Rs.ok (Ctl.ret x15))) else(Rs.bind (Rs.ok ()) λx14=>(Rs.ok (Ctl.nx x14))))))) (VB λg16=>(Rs.ok true))))))
noncomputable def Zu (a_0:(List Int)):Rs Str:=(Rs.bind (Rs.ok (" ":Str)) λx1=>(Rs.bind (Rs.bind (Rs.ok a_0) λx5=>(JK x5 (λa3=>(Rs.bind (Rs.ok a3) λx7=>(chk (x7.natAbs.log2<1920) (Rs.ok (sI x7))))))) λx8=>(chk ((x8.map (·.length)).sum+x8.length*x1.length<=16777216) (Rs.ok (Txt.join x1 x8)))))
noncomputable def Va (a_0:Unit)(a_1:Str):Rs ((Str×Bool) ⊕ (Str×(List (List Int)))):=(Rs.tryC (Rs.bind (Rs.ok a_1) λx13=>(Yj x13)) (λa10=>(Rs.bind (Rs.bind (Rs.ok ("yes":Str)) λx14=>(Rs.bind (Rs.ok a10) λx15=>(Rs.ok (x14,x15)))) λx16=>(Rs.ok (Sum.inr x16)))) (λx1=>(chk (cau XB x1.cls "PlaitError" =true) (Rs.bind (orR (Rs.ok (YK x1.cls "TooBig")) (Rs.ok (YK x1.cls "NoFit"))) λa2=>(Rs.bind (Rs.bind (Rs.ok ("no":Str)) λx5=>(Rs.bind (JH (Rs.ok (YK x1.cls "NoLine")) (Rs.bind (Rs.ok a2) λx4=>(Rs.ok (!x4)))) λx6=>(Rs.ok (x5,x6)))) λx7=>(Rs.ok (Sum.inl x7)))))))
noncomputable def Y2 (a_0:(List (List Int))):Rs Bool:=(Rs.bind (Rs.bind (Rs.bind (Rs.ok (1:Int)) λx2=>(Rs.bind (Rs.bind (Rs.ok a_0) λx1=>(Rs.ok (x1.length:Int))) λx3=>(if(decide (x2<=x3))=true then(Rs.bind (Rs.ok (24:Int)) λx4=>(Rs.ok (decide (x3<=x4)))) else Rs.ok false))) λx5=>(Rs.ok (!x5))) λx6=>(if x6=true then(Rs.ok false) else(Rs.bind (Rs.ok a_0) λx39=>(Rs.bind (forC x39 () (λg9 a11=>(Rs.bind (Rs.bind (Rs.bind (Rs.ok a11) λx13=>(Rs.ok (x13.length:Int))) λx15=>(Rs.bind (Rs.bind (Rs.ok a_0) λx14=>(Rs.ok (x14.length:Int))) λx16=>(Rs.ok (!(decide (x15=x16)))))) λx17=>(if x17=true then(Rs.bind (Rs.ok false) λx36=>(Rs.ok (Ctl.ret x36))) else(Rs.bind (Rs.ok a11) λx35=>(Rs.bind (forC x35 () (λg20 a22=>(Rs.bind (Rs.bind (Rs.bind (Rs.ok (0:Int)) λx25=>(Rs.bind (Rs.ok a22) λx26=>(if(decide (x25<=x26))=true then(Rs.bind (Rs.bind (Rs.ok a_0) λx24=>(Rs.ok (x24.length:Int))) λx27=>(Rs.ok (decide (x26<x27)))) else Rs.ok false))) λx28=>(Rs.ok (!x28))) λx29=>(if x29=true then(Rs.bind (Rs.ok false) λx31=>(Rs.ok (Ctl.ret x31))) else(Rs.bind (Rs.ok ()) λx30=>(Rs.ok (Ctl.nx x30))))))) (QK λg32=>(Rs.bind (Rs.ok ()) λx34=>(Rs.ok (Ctl.nx x34)))))))))) (VB λg37=>(Rs.ok true))))))
noncomputable def Yw (a_0:(List (List Int))):Rs Bool:=(Rs.bind (Rs.bind (Rs.ok (" / ":Str)) λx3=>(Rs.bind (Rs.bind (Rs.ok a_0) λx7=>(JK x7 (λa5=>(Rs.bind (Rs.ok a5) λx9=>(noE (Zu x9)))))) λx10=>(chk ((x10.map (·.length)).sum+x10.length*x3.length<=16777216) (Rs.ok (Txt.join x3 x10))))) λa1=>(Rs.bind (Rs.bind (Rs.ok ()) λx15=>(Rs.bind (Rs.ok a1) λx16=>(noE (Va x15 x16)))) λa11=>(Rs.bind (Rs.bind (Rs.bind (Rs.ok a_0) λx18=>(noE (Y2 x18))) λx19=>(Rs.ok (!x19))) λx20=>(if x20=true then(Rs.bind (Rs.ok a11) λx23=>(Rs.bind (Rs.bind (Rs.bind (Rs.ok ("no":Str)) λx21=>(Rs.bind (Rs.ok true) λx22=>(Rs.ok (x21,x22)))) λx25=>(Rs.ok (Sum.inl x25:((Str×Bool) ⊕ (Str×(List (List Int))))))) λx24=>(Rs.ok (decide (x23=x24))))) else(Rs.bind (Rs.bind (Rs.ok a_0) λx31=>(JK x31 (λa29=>(Rs.bind (Rs.ok a29) λx32=>(Rs.ok x32))))) λa26=>(Rs.bind (Rs.bind (Rs.ok a26) λx36=>(noE (Yu x36))) λa33=>(Rs.bind (orR (Rs.bind (Rs.bind (Rs.ok a33) λx37=>(Rs.ok true)) λx38=>(Rs.ok (!x38))) (orR (Rs.bind (Rs.ok a33) λx39=>(Rs.bind (Rs.ok a1) λx40=>(Rs.ok (!(decide (x39=x40)))))) (Rs.bind (Rs.ok a26) λx41=>(Rs.bind (Rs.ok a_0) λx42=>(Rs.ok (!(decide (x41=x42)))))))) λx43=>(if x43=true then(Rs.ok false) else(Rs.bind (Rs.bind (Rs.ok a11) λx46=>(Rs.bind (Rs.bind (Rs.bind (Rs.ok ("yes":Str)) λx44=>(Rs.bind (Rs.ok a_0) λx45=>(Rs.ok (x44,x45)))) λx48=>(Rs.ok (Sum.inr x48:((Str×Bool) ⊕ (Str×(List (List Int))))))) λx47=>(Rs.ok (!(decide (x46=x47)))))) λx49=>(if x49=true then(Rs.ok false) else(Rs.bind (getR a11) λb50=>(chk ((b50.2.all λa55=>isF (Rs.bind (Rs.bind (Rs.ok a55) λx58=>(noE (X3 x58))) λx59=>(Rs.ok (!x59))))=true/\∀row∈b50.2,row.length<sizeLine) ((λa54=>(Rs.bind (Rs.ok a54) λx69=>(Rs.bind (Rs.bind (Rs.ok a_0) λx63=>(JK x63 (λa61=>(Rs.bind (Rs.ok a61) λx64=>(Rs.bind (Rs.bind (Rs.bind (Rs.ok (0:Int)) λx67=>(Rs.bind (Rs.ok []) λx68=>(Rs.ok (x67::x68)))) λx66=>(chk (x66.length<=sizeLine) (Rs.ok x66))) λx65=>(Cy x64 x65)))))) λx70=>(Rs.ok (decide (x69=x70)))))) (b50.2.map (· ++[0])))))))))))))))
noncomputable def Qw (a_0:Unit)(a_1:Str):Rs ((Str×Bool) ⊕ (Str×(List Int))):=(Rs.tryC (Rs.bind (Rs.ok a_1) λx13=>(XV x13)) (λa10=>(Rs.bind (Rs.bind (Rs.ok ("yes":Str)) λx14=>(Rs.bind (Rs.ok a10) λx15=>(Rs.ok (x14,x15)))) λx16=>(Rs.ok (Sum.inr x16)))) (λx1=>(chk (cau XB x1.cls "PlaitError" =true) (Rs.bind (orR (Rs.ok (YK x1.cls "TooBig")) (Rs.ok (YK x1.cls "NoFit"))) λa2=>(Rs.bind (Rs.bind (Rs.ok ("no":Str)) λx5=>(Rs.bind (JH (Rs.ok (YK x1.cls "NoLine")) (Rs.bind (Rs.ok a2) λx4=>(Rs.ok (!x4)))) λx6=>(Rs.ok (x5,x6)))) λx7=>(Rs.ok (Sum.inl x7)))))))
noncomputable def Ym (a_0:(List Int)):Rs Bool:=(Rs.bind (Rs.bind (Rs.ok a_0) λx3=>(Rs.ok x3)) λa1=>(Rs.bind (Rs.bind (Rs.ok a1) λx7=>(noE (XN x7))) λa4=>(Rs.bind (orR (Rs.bind (Rs.bind (Rs.ok a4) λx8=>(Rs.ok true)) λx9=>(Rs.ok (!x9))) (Rs.bind (Rs.ok a4) λx12=>(Rs.bind (Rs.bind (Rs.ok a_0) λx11=>(noE (Zu x11))) λx13=>(Rs.ok (!(decide (x12=x13))))))) λx14=>(if x14=true then(Rs.ok false) else(Rs.bind (Rs.bind (Rs.ok ()) λx19=>(Rs.bind (Rs.ok a4) λx20=>(noE (Qw x19 x20)))) λa15=>(Rs.bind (Rs.bind (Rs.ok a1) λx21=>(Rs.bind (Rs.ok a_0) λx22=>(Rs.ok (!(decide (x21=x22)))))) λx23=>(if x23=true then(Rs.ok false) else(Rs.bind (Rs.bind (Rs.bind (Rs.bind (Rs.ok a_0) λx27=>(HR x27 (λa25=>(Rs.bind (Rs.bind (Rs.ok a25) λx28=>(Rs.ok (x28.natAbs:Int))) λx31=>(Rs.bind (Rs.bind (Rs.ok (10:Int)) λx29=>(Rs.bind (Rs.ok (18:Int)) λx30=>(GJ x29 x30))) λx32=>(Rs.ok (decide (x32<=x31)))))) (λa25=>(Rs.ok a25)))) λx33=>(Rs.ok (x33.length:Int))) λx34=>(Rs.bind (Rs.ok (0:Int)) λx35=>(Rs.ok (decide (x35<x34))))) λx36=>(if x36=true then(Rs.bind (Rs.ok a15) λx39=>(Rs.bind (Rs.bind (Rs.bind (Rs.ok ("no":Str)) λx37=>(Rs.bind (Rs.ok true) λx38=>(Rs.ok (x37,x38)))) λx41=>(Rs.ok (Sum.inl x41:((Str×Bool) ⊕ (Str×(List Int)))))) λx40=>(Rs.ok (decide (x39=x40))))) else(Rs.bind (orR (Rs.bind (Rs.ok a15) λx44=>(Rs.bind (Rs.bind (Rs.bind (Rs.ok ("yes":Str)) λx42=>(Rs.bind (Rs.ok a_0) λx43=>(Rs.ok (x42,x43)))) λx46=>(Rs.ok (Sum.inr x46:((Str×Bool) ⊕ (Str×(List Int)))))) λx45=>(Rs.ok (!(decide (x44=x45)))))) (Rs.bind (Rs.bind (Rs.bind (Rs.bind (Rs.ok a15) getR) λx48=>(Rs.ok x48.2)) λx49=>(noE (X3 x49))) λx50=>(Rs.ok (!x50)))) λx51=>(if x51=true then(Rs.ok false) else(Rs.bind (getR a15) λb52=>(Rs.bind (Rs.ok (1:Int)) λa54=>(chk (b52.2.length<sizeLine) ((λa56=>(Rs.ok true)) (b52.2++[a54]))))))))))))))))
noncomputable def Gu (a_0:Int)(a_1:(List Int)):Rs (List (List Int)):=(Rs.bind (Rs.ok []) λa1=>(Rs.bind (Rs.bind (Rs.ok a_0) λx4=>(GF 0 x4)) λx46=>(Rs.bind (forN x46 (a1) (λg7 a9=>(Rs.bind (Rs.ok []) λa11=>(Rs.bind (Rs.bind (Rs.ok a_0) λx14=>(GF 0 x14)) λx43=>(Rs.bind (forN x43 (a11) (λg17 a19=>(Rs.bind (Rs.bind (Rs.bind (Rs.bind (Rs.ok a_1) λx27=>(Rs.bind (Rs.bind (Rs.bind (Rs.ok a9) λx23=>(Rs.bind (Rs.bind (Rs.ok (3:Int)) λx21=>(Rs.bind (Rs.ok a19) λx22=>(JC x21 x22))) λx24=>(Rs.ok (x23+x24)))) λx25=>(Rs.bind (Rs.ok (12:Int)) λx26=>(Qo x25 x26))) λx28=>(atR x27 x28))) λx31=>(Rs.bind (Rs.bind (Rs.ok a9) λx29=>(Rs.bind (Rs.ok a19) λx30=>(JC x29 x30))) λx32=>(Rs.ok (x31+x32)))) λx33=>(Rs.bind (Rs.ok a_0) λx34=>(Qo x33 x34))) λa35=>(chk (g17.length<sizeLine) ((λa37=>(Rs.ok (a37))) (g17++[a35])))))) λg38=>(Rs.bind (Rs.ok g38) λa40=>(chk (g7.length<sizeLine) ((λa42=>(Rs.ok (a42))) (g7++[a40]))))))))) λg44=>(Rs.ok g44))))
noncomputable def YI (a_0:(List (List Int)))(a_1:(List Int)):Rs (List (List Int)):=(Rs.bind (Rs.bind (Rs.ok a_0) λx3=>(Rs.ok (x3.length:Int))) λa1=>(Rs.bind (Rs.bind (Rs.ok a_0) λx10=>(JK x10 (λa8=>(Rs.bind (Rs.ok a8) λx11=>(Rs.ok x11))))) λa4=>(Rs.bind (Rs.bind (Rs.bind (Rs.ok a_1) λx12=>(Rs.bind (Rs.ok (1:Int)) λx13=>(atR x12 x13))) λx14=>(Rs.bind (Rs.ok a1) λx15=>(Qo x14 x15))) λx18=>(Rs.bind (alR a4 x18) λk16=>(Rs.bind (Rs.bind (Rs.bind (Rs.bind (Rs.ok a_1) λx19=>(Rs.bind (Rs.ok (0:Int)) λx20=>(atR x19 x20))) λx21=>(Rs.bind (Rs.ok (0:Int)) λx22=>(Rs.ok (decide (x21=x22))))) λx23=>(if x23=true then(Rs.bind (Rs.bind (Rs.bind (Rs.ok a1) λx32=>(Rs.bind (Rs.bind (Rs.ok a_1) λx30=>(Rs.bind (Rs.ok (3:Int)) λx31=>(atR x30 x31))) λx33=>(Rs.ok (x32+x33)))) λx34=>(Rs.bind (Rs.ok (1:Int)) λx35=>(Rs.ok (x34-x35)))) λx26=>(Rs.bind (Rs.bind (Rs.bind (Rs.ok a_1) λx36=>(Rs.bind (Rs.ok (2:Int)) λx37=>(atR x36 x37))) λx38=>(Rs.bind (Rs.ok a1) λx39=>(Qo x38 x39))) λx27=>(Rs.bind (GE a4 k16) λx28=>(Rs.bind (Qa x28 x27 x26) λx29=>((λ(a24:List (List Int))=>(Rs.ok a24)) (a4.set k16 x29)))))) else(Rs.ok a4))) λg40=>(Rs.bind (Rs.bind (Rs.bind (Rs.bind (Rs.ok a_1) λx42=>(Rs.bind (Rs.ok (0:Int)) λx43=>(atR x42 x43))) λx44=>(Rs.bind (Rs.ok (1:Int)) λx45=>(Rs.ok (decide (x44=x45))))) λx46=>(if x46=true then(Rs.bind (GE g40 k16) λx51=>(Rs.bind (Rs.ok (0:Int)) λx49=>(chk (x51.length<sizeLine) ((λ(a47:List (List Int))=>(Rs.ok a47)) (g40.set k16 (x51++[x49])))))) else(Rs.ok g40))) λg53=>(Rs.bind (Rs.bind (Rs.bind (Rs.bind (Rs.ok a_1) λx55=>(Rs.bind (Rs.ok (0:Int)) λx56=>(atR x55 x56))) λx57=>(Rs.bind (Rs.ok (2:Int)) λx58=>(Rs.ok (decide (x57=x58))))) λx59=>(if x59=true then(Rs.bind (Rs.bind (Rs.bind (Rs.ok (1:Int)) λx66=>(Rs.ok (-x66))) λx69=>(Rs.bind (Rs.bind (Rs.ok a_1) λx67=>(Rs.bind (Rs.ok (3:Int)) λx68=>(atR x67 x68))) λx70=>(Rs.ok (x69-x70)))) λx62=>(Rs.bind (Rs.bind (Rs.bind (Rs.ok a_1) λx71=>(Rs.bind (Rs.ok (2:Int)) λx72=>(atR x71 x72))) λx73=>(Rs.bind (Rs.ok a1) λx74=>(Qo x73 x74))) λx63=>(Rs.bind (GE g53 k16) λx64=>(Rs.bind (Qa x64 x63 x62) λx65=>((λ(a60:List (List Int))=>(Rs.ok a60)) (g53.set k16 x65)))))) else(Rs.ok g53))) λg75=>(Rs.bind (Rs.bind (JH (Rs.bind (Rs.bind (Rs.ok a_1) λx77=>(Rs.bind (Rs.ok (0:Int)) λx78=>(atR x77 x78))) λx79=>(Rs.bind (Rs.ok (3:Int)) λx80=>(Rs.ok (decide (x79=x80))))) (Rs.bind (Rs.ok a1) λx81=>(Rs.bind (Rs.ok (1:Int)) λx82=>(Rs.ok (decide (x82<x81)))))) λx83=>(if x83=true then(Rs.bind (GE g75 k16) λx88=>(chk (0<x88.length) ((λ(a84:List (List Int))=>(Rs.ok a84)) (g75.set k16 x88.dropLast)))) else(Rs.ok g75))) λg90=>(Rs.ok g90)))))))))
noncomputable def U6 (a_0:(List Int)):Rs Bool:=(Rs.bind (Rs.bind (Rs.ok a_0) λx18=>(Rs.bind (Rs.ok (1:Int)) λx19=>(Rs.bind (Rs.bind (Rs.bind (Rs.bind (Rs.ok (2:Int)) λx11=>(Rs.bind (Rs.bind (Rs.ok (8:Int)) λx9=>(Rs.bind (Rs.bind (Rs.ok (7:Int)) λx7=>(Rs.bind (Rs.ok []) λx8=>(Rs.ok (x7::x8)))) λx10=>(Rs.ok (x9::x10)))) λx12=>(Rs.ok (x11::x12)))) λx6=>(chk (x6.length<=sizeLine) (Rs.ok x6))) λx4=>(Rs.bind (Rs.bind (Rs.bind (Rs.bind (Rs.ok (24:Int)) λx16=>(Rs.bind (Rs.ok []) λx17=>(Rs.ok (x16::x17)))) λx15=>(chk (x15.length<=sizeLine) (Rs.ok x15))) λx13=>(Rs.bind (Rs.ok (12:Int)) λx14=>(BU x13 x14))) λx5=>(Cy x4 x5))) λx20=>(noE (JF x18 x19 x20))))) λa1=>(Rs.bind (Rs.bind (Rs.ok a_0) λx24=>(Rs.bind (Rs.ok (0:Int)) λx25=>(Rs.bind (Rs.ok (12:Int)) λx26=>(noE (Qz x24 x25 x26))))) λa21=>(Rs.bind (Rs.bind (Rs.ok a21) λx29=>(Rs.ok (x29.length:Int))) λa27=>(Rs.bind (Rs.bind (Rs.bind (Rs.bind (Rs.ok a1) λx30=>(Rs.bind (Rs.ok (1:Int)) λx31=>(atR x30 x31))) λx32=>(Rs.bind (Rs.ok (7:Int)) λx33=>(Rs.ok (decide (x32=x33))))) λx34=>(if x34=true then(Rs.bind (Rs.bind (Rs.ok (20:Int)) λx41=>(Rs.bind (Rs.bind (Rs.ok a1) λx39=>(Rs.bind (Rs.ok (2:Int)) λx40=>(atR x39 x40))) λx42=>(Rs.ok (x41+x42)))) λa37=>(Rs.ok (a37))) else(Rs.ok (a27)))) λg44=>(Rs.bind (Rs.bind (orR (Rs.bind (Rs.bind (Rs.ok a1) λx45=>(Rs.bind (Rs.ok (0:Int)) λx46=>(atR x45 x46))) λx47=>(Rs.bind (Rs.ok (0:Int)) λx48=>(Rs.ok (decide (x47=x48))))) (Rs.bind (Rs.bind (Rs.ok a1) λx49=>(Rs.bind (Rs.ok (1:Int)) λx50=>(atR x49 x50))) λx51=>(Rs.bind (Rs.ok (7:Int)) λx52=>(Rs.ok (decide (x51=x52)))))) λx53=>(if x53=true then(Rs.bind (Rs.bind (Rs.ok g44) λx63=>(Rs.bind (Rs.bind (Rs.ok a1) λx60=>(Rs.bind (Rs.bind (Rs.ok (3:Int)) λx59=>(Rs.ok (some x59))) λx61=>(Rs.bind (Rs.ok none) λx62=>(Rs.ok (GG x60 x61 x62))))) λx64=>(noE (Gu x63 x64)))) λa56=>(Rs.ok (a56))) else(Rs.ok (a21)))) λg66=>(Rs.bind (Rs.bind (Rs.ok a_0) λx79=>(Rs.bind (Rs.ok (2:Int)) λx80=>(Rs.bind (Rs.bind (Rs.bind (Rs.ok (6:Int)) λx77=>(Rs.bind (Rs.bind (Rs.ok (24:Int)) λx75=>(Rs.bind (Rs.bind (Rs.ok (24:Int)) λx73=>(Rs.bind (Rs.bind (Rs.ok (3:Int)) λx71=>(Rs.bind (Rs.ok []) λx72=>(Rs.ok (x71::x72)))) λx74=>(Rs.ok (x73::x74)))) λx76=>(Rs.ok (x75::x76)))) λx78=>(Rs.ok (x77::x78)))) λx70=>(chk (x70.length<=sizeLine) (Rs.ok x70))) λx81=>(noE (JF x79 x80 x81))))) λa67=>(Rs.bind (Rs.ok []) λa82=>(Rs.bind (Rs.bind (Rs.bind (Rs.bind (Rs.ok (21:Int)) λx90=>(Rs.bind (Rs.ok []) λx91=>(Rs.ok (x90::x91)))) λx89=>(chk (x89.length<=sizeLine) (Rs.ok x89))) λx87=>(Rs.bind (Rs.bind (Rs.bind (Rs.bind (Rs.ok (4:Int)) λx101=>(Rs.bind (Rs.bind (Rs.ok (2:Int)) λx99=>(Rs.bind (Rs.bind (Rs.bind (Rs.ok (10:Int)) λx95=>(Rs.bind (Rs.ok (59:Int)) λx96=>(GJ x95 x96))) λx97=>(Rs.bind (Rs.ok []) λx98=>(Rs.ok (x97::x98)))) λx100=>(Rs.ok (x99::x100)))) λx102=>(Rs.ok (x101::x102)))) λx94=>(chk (x94.length<=sizeLine) (Rs.ok x94))) λx92=>(Rs.bind (Rs.ok (20:Int)) λx93=>(BU x92 x93))) λx88=>(Cy x87 x88))) λa85=>(Rs.bind (Rs.bind (Rs.ok a_0) λx106=>(Rs.bind (Rs.ok (3:Int)) λx107=>(Rs.bind (Rs.ok a85) λx108=>(noE (JF x106 x107 x108))))) λa103=>(Rs.bind (Rs.bind (Rs.bind (Rs.ok a103) λx109=>(Rs.bind (Rs.ok (0:Int)) λx110=>(atR x109 x110))) λx111=>(GF 0 x111)) λx186=>(Rs.bind (forN x186 (a82) (λg114 a116=>(Rs.bind (Rs.bind (Rs.bind (Rs.ok a103) λx124=>(Rs.bind (Rs.bind (Rs.bind (Rs.ok (3:Int)) λx120=>(Rs.bind (Rs.ok a116) λx121=>(JC x120 x121))) λx122=>(Rs.bind (Rs.ok (3:Int)) λx123=>(Rs.ok (x122+x123)))) λx125=>(atR x124 x125))) λx149=>(Rs.bind (Rs.bind (Rs.bind (Rs.bind (Rs.ok (10:Int)) λx139=>(Rs.bind (Rs.bind (Rs.bind (Rs.ok (10:Int)) λx127=>(Rs.bind (Rs.ok (6:Int)) λx128=>(GJ x127 x128))) λx137=>(Rs.bind (Rs.bind (Rs.bind (Rs.ok (10:Int)) λx129=>(Rs.bind (Rs.ok (18:Int)) λx130=>(GJ x129 x130))) λx135=>(Rs.bind (Rs.bind (Rs.bind (Rs.ok (10:Int)) λx131=>(Rs.bind (Rs.ok (59:Int)) λx132=>(GJ x131 x132))) λx133=>(Rs.bind (Rs.ok []) λx134=>(Rs.ok (x133::x134)))) λx136=>(Rs.ok (x135::x136)))) λx138=>(Rs.ok (x137::x138)))) λx140=>(Rs.ok (x139::x140)))) λx126=>(chk (x126.length<=sizeLine) (Rs.ok x126))) λx147=>(Rs.bind (Rs.bind (Rs.ok a103) λx145=>(Rs.bind (Rs.bind (Rs.bind (Rs.ok (3:Int)) λx141=>(Rs.bind (Rs.ok a116) λx142=>(JC x141 x142))) λx143=>(Rs.bind (Rs.ok (1:Int)) λx144=>(Rs.ok (x143+x144)))) λx146=>(atR x145 x146))) λx148=>(atR x147 x148))) λx150=>(Qo x149 x150))) λa118=>(Rs.bind (Rs.bind (Rs.ok a118) λx161=>(Rs.bind (Rs.bind (Rs.bind (Rs.ok (2:Int)) λx157=>(Rs.bind (Rs.bind (Rs.ok a103) λx155=>(Rs.bind (Rs.bind (Rs.bind (Rs.ok (3:Int)) λx151=>(Rs.bind (Rs.ok a116) λx152=>(JC x151 x152))) λx153=>(Rs.bind (Rs.ok (2:Int)) λx154=>(Rs.ok (x153+x154)))) λx156=>(atR x155 x156))) λx158=>(JC x157 x158))) λx159=>(Rs.bind (Rs.ok (1:Int)) λx160=>(Rs.ok (x159-x160)))) λx162=>(JC x161 x162))) λa163=>(chk (g114.length<sizeLine) ((λa165=>(Rs.ok (a165))) (g114++[a163]))))))) λg166=>(Rs.bind (orR (Rs.bind (Rs.bind (Rs.ok g66) λx169=>(noE (Yw x169))) λx170=>(Rs.ok (!x170))) (Rs.bind (Rs.bind (Rs.ok g166) λx172=>(noE (Ym x172))) λx173=>(Rs.ok (!x173)))) λx174=>(if x174=true then(Rs.ok false) else(Rs.bind (Rs.bind (Rs.bind (Rs.bind (Rs.ok g66) λx177=>(Rs.bind (Rs.ok a67) λx178=>(noE (YI x177 x178)))) λx179=>(noE (Yw x179))) λx180=>(Rs.ok (!x180))) λx181=>(if x181=true then(Rs.ok false) else(JH (Rs.bind (Rs.ok g66) λx183=>(noE (Yw x183))) (Rs.bind (Rs.ok g166) λx185=>(noE (Ym x185)))))))))))))))))))
end My
namespace L2
open PySem
section
variable {α β γ ρ:Type}
theorem Rs.okb (a:α)(f:α->Rs β):(Rs.ok a).bind f=f a:=(Eq.refl (f a)).symm.symm
theorem Do {f:α->Rs β}{h:α->β}:∀{as:List α},(∀a∈as,f a= .ok (h a))->UH as f= .ok (as.map h)
 | [],_=>rfl
 |a::as,hf=>by
  show(f a).bind _=_
  rw[hf a (by simp),Rs.ok_bind,Do λb hb=>hf b (by simp[hb])];rfl
theorem ZB {f:α->Rs β}{h:α->β}{as:List α}(hl:as.length<=sizeLine)(hf:∀a∈as,f a= .ok (h a)):JK as f= .ok (as.map h):=by
 unfold JK;rw[Xq hl];exact Do hf
theorem FM {c:α->Rs Bool}{f:α->Rs β}{p:α->Bool}{h:α->β}:∀{as:List α},(∀a∈as,c a= .ok (p a))->(∀a∈as,p a=true->f a= .ok (h a))->K0 as c f= .ok ((as.filter p).map h)
 | [],_,_=>rfl
 |a::as,hc,hf=>by
  show(c a).bind _=_
  rw[hc a (by simp),Rs.ok_bind]
  have ih:=FM (as:=as) (λb hb=>hc b (by simp[hb])) λb hb=>hf b (by simp[hb])
  cases hp:p a with
  |false=>rw[if_neg (by simp),ih,List.filter_cons,hp];rfl
  |true=>rw[if_pos rfl,hf a (by simp) hp,Rs.ok_bind,ih,List.filter_cons,hp];rfl
theorem B3 {c:α->Rs Bool}{f:α->Rs β}{p:α->Bool}{h:α->β}{as:List α}(hl:as.length<=sizeLine)(hc:∀a∈as,c a= .ok (p a))(hf:∀a∈as,p a=true->f a= .ok (h a)):HR as c f= .ok ((as.filter p).map h):=by
 unfold HR;rw[Xq hl];exact FM hc hf
theorem V3 {f:γ->α->Rs γ}(P:Nat->γ->Prop):∀(as:List α) (k:Nat) (g:γ),P k g->(∀i a g,as[i]?=some a->P (k+i) g->∃g',f g a= .ok g'/\P (k+i+1) g')->∃g',forN as g f= .ok g'/\P (k+as.length) g'
 | [],k,g,h0,_=>⟨g,rfl,h0⟩
 |a::as,k,g,h0,hs=>by
  obtain⟨g1,e1,p1⟩:=hs 0 a g rfl h0
  obtain⟨g2,e2,p2⟩:=V3 P as (k+1) g1 p1 λi b g hb hp=>by
   obtain⟨g',e',p'⟩:=hs (i+1) b g (by simpa using hb) (by rw[show k+(i+1)=k+1+i by omega];exact hp)
   exact⟨g',e',by rw[show k+1+i+1=k+(i+1)+1 by omega];exact p'⟩
  refine⟨g2,?_,by rw[List.length_cons,show k+(as.length+1)=k+1+as.length by omega];exact p2⟩
  show(f g a).bind _=_
  rw[e1,Rs.ok_bind];exact e2
theorem KO {f:γ->α->Rs γ}(P:Nat->γ->Prop){as:List α}{g:γ}(h0:P 0 g)(hs:∀i a g,as[i]?=some a->P i g->∃g',f g a= .ok g'/\P (i+1) g'):∃g',forN as g f= .ok g'/\P as.length g':=by
 have:=V3 P as 0 g h0 (by simpa using hs)
 simpa using this
theorem Ur {f:List β->α->Rs (List β)}{h:α->β}:∀{as:List α}{g:List β},g.length+as.length<=sizeLine->(∀g:List β,g.length<sizeLine->∀a∈as,f g a= .ok (g++[h a]))->forN as g f= .ok (g++as.map h)
 | [],g,_,_=>by simp[forN]
 |a::as,g,hl,hf=>by
  show(f g a).bind _=_
  rw[List.length_cons] at hl
  rw[hf g (by omega) a (by simp),Rs.ok_bind,Ur (by simp;omega) λg hg b hb=>hf g hg b (by simp[hb])]
  simp
theorem Kz {f:γ->α->Rs (Ctl ρ γ)}:∀{as:List α}{g:γ},(∀a∈as,f g a= .ok (.nx g))->forC as g f= .ok (.nx g)
 | [],_,_=>rfl
 |a::as,g,hf=>by
  show(f g a).bind _=_
  rw[hf a (by simp),Rs.ok_bind]
  exact Kz λb hb=>hf b (by simp[hb])
theorem Ud {f:γ->α->Rs (Ctl ρ γ)}(P:Nat->γ->Prop):∀(as:List α) (k:Nat) (g:γ),P k g->(∀i a g,as[i]?=some a->P (k+i) g->∃g',f g a= .ok (.nx g')/\P (k+i+1) g')->∃g',forC as g f= .ok (.nx g')/\P (k+as.length) g'
 | [],k,g,h0,_=>⟨g,rfl,h0⟩
 |a::as,k,g,h0,hs=>by
  obtain⟨g1,e1,p1⟩:=hs 0 a g rfl h0
  obtain⟨g2,e2,p2⟩:=Ud P as (k+1) g1 p1 λi b g hb hp=>by
   obtain⟨g',e',p'⟩:=hs (i+1) b g (by simpa using hb) (by rw[show k+(i+1)=k+1+i by omega];exact hp)
   exact⟨g',e',by rw[show k+1+i+1=k+(i+1)+1 by omega];exact p'⟩
  refine⟨g2,?_,by rw[List.length_cons,show k+(as.length+1)=k+1+as.length by omega];exact p2⟩
  show(f g a).bind _=_
  rw[e1,Rs.ok_bind];exact e2
theorem DX {f:γ->α->Rs (Ctl ρ γ)}(P:Nat->γ->Prop){as:List α}{g:γ}(h0:P 0 g)(hs:∀i a g,as[i]?=some a->P i g->∃g',f g a= .ok (.nx g')/\P (i+1) g'):∃g',forC as g f= .ok (.nx g')/\P as.length g':=by
 have:=Ud P as 0 g h0 (by simpa using hs)
 simpa using this
theorem Yc {a b:Int}(h:0<b):Qo a b= .ok (a % b):=Xq h
theorem ZM {a b:Int}(h1: -(2^64)<a)(h2:a<2^64):JC a b= .ok (a*b):=Xq (.inl ⟨h1,h2⟩)
theorem QA {a b:Int}(h1: -(2^64)<b)(h2:b<2^64):JC a b= .ok (a*b):=Xq (.inr ⟨h1,h2⟩)
theorem GP {a b:Int}(h:0<b)(h2:b<2^250):EH a b= .ok (a/b):=Xq ⟨h,by
 have h3:b.natAbs<2^250:=by omega
 rcases Nat.eq_zero_or_pos b.natAbs with h0 |h0
 ·omega
 ·have:=(Nat.log2_lt (by omega)).mpr h3
  omega⟩
theorem J9 {a b:Int}(h0:0<=b)(h1:b<=1000000)(h2: -(2^64)<a)(h3:a<2^64):GJ a b= .ok (a^b.toNat):=Xq ⟨h0,h1,by omega⟩
theorem Ql {as:List α}{i:Nat}{a:α}(h:as[i]?=some a):atR as (i:Int)= .ok a:=by
 have hlt:=(List.getElem?_eq_some_iff.mp h).1
 unfold atR atI ixN
 rw[if_pos (by omega),if_pos (by omega)]
 simp[h]
theorem EW {as:List α}{i:Int}{a:α}(h0:0<=i)(h:as[i.toNat]?=some a):atR as i= .ok a:=by
 have:i=(i.toNat:Int):=by omega
 rw[this];exact Ql h
theorem JS {n:Nat}(h:n<2^62):GF 0 (n:Int)= .ok ((List.range n).map λ(i:Nat)=>(i:Int)):=by
 unfold GF
 rw[Xq (by omega)]
 unfold ZK
 congr 1
 rw[Int.sub_zero,Int.toNat_natCast]
 exact List.map_congr_left λi _=>by omega
theorem Y7 {n i:Nat}{a:Int}(h:((List.range n).map λ(i:Nat)=>(i:Int))[i]?=some a):a=(i:Int)/\i<n:=by
 have hlt:=(List.getElem?_eq_some_iff.mp h).1
 simp only[List.length_map,List.length_range] at hlt
 rw[List.getElem?_map,List.getElem?_range hlt] at h
 exact⟨(Option.some.inj h).symm,hlt⟩
theorem Ja {n:Nat}{a:Int}(h:a∈(List.range n).map λ(i:Nat)=>(i:Int)):∃i:Nat,i<n/\a=(i:Int):=by
 obtain⟨i,hi,rfl⟩:=List.mem_map.mp h
 exact⟨i,List.mem_range.mp hi,rfl⟩
theorem Y9 {n:Nat}:((List.range n).map λ(i:Nat)=>(i:Int)).length=n:=by simp
theorem GN {a:Bool}{b:Rs Bool}{c:Bool}(h:a=true->b= .ok c):JH (.ok a) b= .ok (a&&c):=by
 cases a with
 |false=>rfl
 |true=>
  show(if true=true then b else Rs.ok false)=_
  rw[if_pos rfl,h rfl];rfl
theorem Et {a:Bool}{b:Rs Bool}{c:Bool}(h:a=false->b= .ok c):orR (.ok a) b= .ok (a || c):=by
 cases a with
 |true=>rfl
 |false=>
  show(if false=true then Rs.ok true else b)=_
  rw[if_neg Bool.false_ne_true,h rfl];rfl
theorem sz {n:Nat}(h:n<=100000):n<=sizeLine:=Nat.le_trans h (by decide)
theorem DP {n:Nat}(h:n<=100000):n<sizeLine:=Nat.lt_of_le_of_lt h (by decide)
noncomputable def Ok (m:Rs β)(R:β->Prop):Prop:=∃ r,m= .ok r/\R r
theorem Ok.pure {R:β->Prop}{a:β}(h:R a):Ok (.ok a) R:=⟨a,rfl,h⟩
theorem Ok.bind {m:Rs α}{f:α->Rs β}{R:α->Prop}{T:β->Prop}(h:Ok m R)(hf:∀a,R a->Ok (f a) T):Ok (m.bind f) T:=by
 obtain⟨a,e,ha⟩:=h
 rw[e];exact hf a ha
theorem Ok.imp {m:Rs α}{R T:α->Prop}(h:Ok m R)(hf:∀a,R a->T a):Ok m T:=by
 obtain⟨a,e,ha⟩:=h
 exact⟨a,e,hf a ha⟩
theorem Ok.noE {m:Rs α}{R:α->Prop}(h:Ok m R):Ok (noE m) R:=by
 obtain⟨a,e,ha⟩:=h
 rw[e];exact⟨a,rfl,ha⟩
theorem Ok.chk {c:Prop}[Decidable c]{m:Rs α}{R:α->Prop}(hc:c)(h:Ok m R):Ok (chk c m) R:=by rw[Xq hc];exact h
theorem Ok.ite {b:Bool}{m n:Rs α}{R:α->Prop}(h1:b=true->Ok m R)(h2:b=false->Ok n R):Ok (if b=true then m else n) R:=by
 cases b with
 |true=>rw[if_pos rfl];exact h1 rfl
 |false=>rw[if_neg Bool.false_ne_true];exact h2 rfl
theorem Ok.forN {f:γ->α->Rs γ}(P:Nat->γ->Prop){as:List α}{g:γ}(h0:P 0 g)(hs:∀i a g,as[i]?=some a->P i g->Ok (f g a) (P (i+1))):Ok (forN as g f) (P as.length):=KO P h0 hs
theorem Ok.forC {f:γ->α->Rs (Ctl ρ γ)}(P:Nat->γ->Prop){as:List α}{g:γ}(h0:P 0 g)(hs:∀i a g,as[i]?=some a->P i g->∃g',f g a= .ok (.nx g')/\P (i+1) g'):Ok (forC as g f) (λc=>∃ g',c= .nx g'/\P as.length g'):=by
 obtain⟨g',e,h⟩:=DX P h0 hs
 exact⟨_,e,g',rfl,h⟩
theorem Ck {f:γ->Rs ρ}(g:γ):VB f (.nx g)=f g:=(Eq.refl (f g)).symm.symm
theorem Fo {f:γ->Rs ρ}(r:ρ):VB f (.ret r)= .ok r:=(Eq.refl (Rs.ok r)).symm.symm
theorem GZ {δ:Type}{f:γ->Rs (Ctl ρ δ)}(g:γ):QK f (.nx g)=f g:=(Eq.refl (f g)).symm.symm
theorem Gm {δ:Type}{f:γ->Rs (Ctl ρ δ)}(r:ρ):QK f (.ret r)= .ok (.ret r):=(Eq.refl (Rs.ok (Ctl.ret r))).symm.symm
theorem Yq (a:α):noE (Rs.ok a)= .ok a:=(Eq.refl (Rs.ok a)).symm.symm
theorem Ok.of {m:Rs α}{a:α}(h:m= .ok a):Ok m (λb=>b=a):=⟨a,h,rfl⟩
theorem Ok.eq {m:Rs α}{a:α}(h:Ok m (λb=>b=a)):m= .ok a:=by
 obtain⟨b,e,rfl⟩:=h
 exact e
theorem Iq {m:Rs α}{f:α->Rs β}{a:α}{r:Rs β}(h:m= .ok a)(h2:f a=r):m.bind f=r:=by rw[h];exact h2
end
end L2
namespace My
noncomputable def ZY (n:Nat)(f:Nat->Nat->Nat)(a:Nat):List Int:=(List.range n).map λb=>(f a b:Int)
noncomputable def ZD (n:Nat)(f:Nat->Nat->Nat):List (List Int):=(List.range n).map (ZY n f)
theorem YS (n:Nat)(f:Nat->Nat->Nat)(a:Nat):(ZY n f a).length=n:=by simp[ZY]
theorem Yl (n:Nat)(f:Nat->Nat->Nat):(ZD n f).length=n:=by simp[ZD]
theorem Jz {n:Nat}{f:Nat->Nat->Nat}{a b:Nat}(h:b<n):(ZY n f a)[b]?=some (f a b:Int):=by
 unfold ZY;rw[List.getElem?_map,List.getElem?_range h];rfl
theorem Je {n:Nat}{f:Nat->Nat->Nat}{a:Nat}(h:a<n):(ZD n f)[a]?=some (ZY n f a):=by
 unfold ZD;rw[List.getElem?_map,List.getElem?_range h];rfl
theorem Jk {n:Nat}{f g:Nat->Nat->Nat}{a:Nat}(h:∀b,b<n->f a b=g a b):ZY n f a=ZY n g a:=by
 unfold ZY
 exact List.map_congr_left λb hb=>by rw[h b (List.mem_range.mp hb)]
theorem Ze {n:Nat}{f g:Nat->Nat->Nat}(h:∀a b,a<n->b<n->f a b=g a b):ZD n f=ZD n g:=by
 unfold ZD
 exact List.map_congr_left λa ha=>Jk λb hb=>h a b (List.mem_range.mp ha) hb
structure Col (n:Nat)(f:Nat->Nat->Nat):Prop where
 lt:∀a b,a<n->b<n->f a b<n
 r2:∀x y b,x<n->y<n->b<n->f x b=f y b->x=y
structure GoodF (n:Nat)(f:Nat->Nat->Nat):Prop extends Col n f where
 r1:∀a,a<n->f a a=a
 r3:∀a b c,a<n->b<n->c<n->f (f a b) c=f (f a c) (f b c)
theorem GoodF.congr {n:Nat}{f g:Nat->Nat->Nat}(h:GoodF n f)(e:∀a b,a<n->b<n->g a b=f a b):GoodF n g where
 lt a b ha hb:=by rw[e a b ha hb];exact h.lt a b ha hb
 r2 x y b hx hy hb q:=by rw[e x b hx hb,e y b hy hb] at q;exact h.r2 x y b hx hy hb q
 r1 a ha:=by rw[e a a ha ha];exact h.r1 a ha
 r3 a b c ha hb hc:=by
  rw[e a b ha hb,e a c ha hc,e b c hb hc,e _ c (h.lt a b ha hb) hc,e _ _ (h.lt a c ha hc) (h.lt b c hb hc)]
  exact h.r3 a b c ha hb hc
theorem Q5:∀(n:Nat) (p:Nat->Nat),(∀a,a<n->p a<n)->(∀a b,a<n->b<n->p a=p b->a=b)->∀y,y<n->∃x,x<n/\p x=y
 |0,_,_,_,y,hy=>absurd hy (Nat.not_lt_zero _)
 |n+1,p,hl,hi,y,hy=>by
  by_cases hh:∃x,x<n+1/\p x=y
  ·exact hh
  ·exfalso
   -- send n to y, and y's place away
   have hne:∀x,x<n+1->p x≠y:=λx hx e=>hh ⟨x,hx,e⟩
   -- among the first n: p', which skips y
   let s:Nat->Nat:=λv=>if v<y then v else v-1
   have hs:∀a,a<n+1->s (p a)<n:=λa ha=>by
    have h1:=hl a ha;have h2:=hne a ha
    show(if p a<y then p a else p a-1)<n
    split<;> omega
   have hsi:∀a b,a<n+1->b<n+1->s (p a)=s (p b)->a=b:=λa b ha hb e=>by
    have h1:=hne a ha;have h2:=hne b hb
    refine hi a b ha hb ?_
    have e':(if p a<y then p a else p a-1)=(if p b<y then p b else p b-1):=e
    split at e'<;> split at e'<;> omega
   obtain⟨x,hx,ex⟩:=Q5 n (λa=>s (p a)) (λa ha=>hs a (by omega)) (λa b ha hb e=>hsi a b (by omega) (by omega) e) (s (p n)) (hs n (by omega))
   have:=hsi x n (by omega) (by omega) ex
   omega
structure PermN (n:Nat)(p q:Nat->Nat):Prop where
 lt:∀a,a<n->p a<n
 qlt:∀a,a<n->q a<n
 pq:∀a,a<n->p (q a)=a
 qp:∀a,a<n->q (p a)=a
theorem PermN.good {n:Nat}{p q:Nat->Nat}{f:Nat->Nat->Nat}(h:PermN n p q)(g:GoodF n f):GoodF n (λx y=>p (f (q x) (q y))) where
 lt a b ha hb:=h.lt _ (g.lt _ _ (h.qlt a ha) (h.qlt b hb))
 r2 x y b hx hy hb e:=by
  have e1:q (p (f (q x) (q b)))=q (p (f (q y) (q b))):=congrArg q e
  rw[h.qp _ (g.lt _ _ (h.qlt x hx) (h.qlt b hb)),h.qp _ (g.lt _ _ (h.qlt y hy) (h.qlt b hb))] at e1
  have:=g.r2 _ _ _ (h.qlt x hx) (h.qlt y hy) (h.qlt b hb) e1
  rw[←h.pq x hx, ←h.pq y hy,this]
 r1 a ha:=by
  show p (f (q a) (q a))=a
  rw[g.r1 _ (h.qlt a ha),h.pq a ha]
 r3 a b c ha hb hc:=by
  have l1:=g.lt _ _ (h.qlt a ha) (h.qlt b hb)
  have l2:=g.lt _ _ (h.qlt a ha) (h.qlt c hc)
  have l3:=g.lt _ _ (h.qlt b hb) (h.qlt c hc)
  show p (f (q (p (f (q a) (q b)))) (q c))=p (f (q (p (f (q a) (q c)))) (q (p (f (q b) (q c)))))
  rw[h.qp _ l1,h.qp _ l2,h.qp _ l3,g.r3 _ _ _ (h.qlt a ha) (h.qlt b hb) (h.qlt c hc)]
theorem BT {n:Nat}{p:Nat->Nat}(hl:∀a,a<n->p a<n)(hi:∀a b,a<n->b<n->p a=p b->a=b):∃q,PermN n p q:=by
 have ho:=Q5 n p hl hi
 refine⟨λy=>if h:y<n then Classical.choose (ho y h) else 0,hl,λa ha=>?_,λa ha=>?_,λa ha=>?_⟩
 ·simp only[dif_pos ha];exact(Classical.choose_spec (ho a ha)).1
 ·simp only[dif_pos ha];exact(Classical.choose_spec (ho a ha)).2
 ·simp only[dif_pos (hl a ha)]
  have:=Classical.choose_spec (ho (p a) (hl a ha))
  exact hi _ _ this.1 ha this.2
theorem UZ {A B n z:Int}(h:A-B=n*z):A % n=B % n:=by
 have:A=B+n*z:=by omega
 rw[this,Int.add_mul_emod_self_left]
noncomputable def FI (k n a b:Int):Int:=(k*a+(1-k)*b) % n
noncomputable def DN (k:Int)(n:Nat)(a b:Nat):Nat:=(FI k n a b).toNat
theorem XY {k:Int}{n:Nat}(hn:0<n)(a b:Nat):((DN k n a b:Nat):Int)=FI k n a b:=by
 unfold DN
 have:=Int.emod_nonneg (k*a+(1-k)*b) (show(n:Int)≠0 by omega)
 unfold FI
 omega
theorem VG {k:Int}{n:Nat}(hn:0<n)(hk:∀x:Int,(n:Int)∣k*x->(n:Int)∣x):GoodF n (DN k n) where
 lt a b _ _:=by
  have h:=XY (k:=k) hn a b
  have:=Int.emod_lt_of_pos (k*a+(1-k)*b) (show 0<(n:Int) by omega)
  unfold FI at h
  omega
 r1 a ha:=by
  have h:=XY (k:=k) hn a a
  have e:k*(a:Int)+(1-k)*a=a:=by grind
  unfold FI at h
  rw[e,Int.emod_eq_of_lt (by omega) (by omega)] at h
  omega
 r2 x y b hx hy hb e:=by
  have h1:=XY (k:=k) hn x b
  have h2:=XY (k:=k) hn y b
  rw[e,h2] at h1
  unfold FI at h1
  have:=Int.emod_eq_emod_iff_emod_sub_eq_zero.mp h1
  have hd:(n:Int)∣k*((y:Int)-x):=by
   have:=Int.dvd_of_emod_eq_zero this
   have e2:(k*(y:Int)+(1-k)*b)-(k*x+(1-k)*b)=k*((y:Int)-x):=by grind
   rwa [e2] at this
  obtain⟨z,hz⟩:=hk _ hd
  have hz1:z<1:=by
   apply Int.lt_of_mul_lt_mul_left (a:=(n:Int)) _ (by omega)
   omega
  have hz2: -1<z:=by
   apply Int.lt_of_mul_lt_mul_left (a:=(n:Int)) _ (by omega)
   omega
  have:z=0:=by omega
  subst this
  omega
 r3 a b c _ _ _:=by
  have e1:=XY (k:=k) hn a b
  have e2:=XY (k:=k) hn a c
  have e3:=XY (k:=k) hn b c
  have e4:=XY (k:=k) hn (DN k n a b) c
  have e5:=XY (k:=k) hn (DN k n a c) (DN k n b c)
  have hh:FI k n (DN k n a b:Nat) c=FI k n (DN k n a c:Nat) (DN k n b c:Nat):=by
   rw[e1,e2,e3]
   unfold FI
   have q1:=Int.emod_add_mul_ediv (k*(a:Int)+(1-k)*b) n
   have q2:=Int.emod_add_mul_ediv (k*(a:Int)+(1-k)*c) n
   have q3:=Int.emod_add_mul_ediv (k*(b:Int)+(1-k)*c) n
   generalize (k*(a:Int)+(1-k)*b)/n=d1 at q1
   generalize (k*(a:Int)+(1-k)*c)/n=d2 at q2
   generalize (k*(b:Int)+(1-k)*c)/n=d3 at q3
   generalize (k*(a:Int)+(1-k)*b) % n=m1 at*
   generalize (k*(a:Int)+(1-k)*c) % n=m2 at*
   generalize (k*(b:Int)+(1-k)*c) % n=m3 at*
   refine UZ (z:=-k*d1+k*d2+(1-k)*d3) ?_
   grind
  omega
theorem Gk {k:Int}{n:Nat}(h:Int.gcd k n=1)(x:Int)(hd:(n:Int)∣k*x):(n:Int)∣x:=by
 have h1:=Int.natAbs_dvd_natAbs.mpr hd
 rw[Int.natAbs_mul,Int.natAbs_natCast] at h1
 have h2:Nat.Coprime n k.natAbs:=by
  have:Nat.gcd k.natAbs n=1:=h
  rw[Nat.gcd_comm] at this
  exact this
 exact Int.natAbs_dvd_natAbs.mp (by rw[Int.natAbs_natCast];exact h2.dvd_of_dvd_mul_left h1)
theorem Ga {n:Nat}(x:Int)(hd:(n:Int)∣(-1)*x):(n:Int)∣x:=by
 have:(-1)*x= -x:=by omega
 rw[this] at hd
 exact Int.dvd_neg.mp hd
theorem Qu (n:Nat):GoodF n (λa _=>a):=⟨⟨λ_ _ h _=>h,λ_ _ _ _ _ _ e=>e⟩,λ_ _=>rfl,λ_ _ _ _ _ _=>rfl⟩
theorem Ul {n:Nat}{p:Nat->Nat}(h1:∀a,a<n->p a<n)(h2:∀a,a+1=n->p a=a)(h3:∀x y,x<n->y<n->p x=p y->x=y):GoodF n (λa b=>if b+1=n then p a else a) where
 lt a b ha hb:=by
  show(if b+1=n then p a else a)<n
  split
  ·exact h1 a ha
  ·exact ha
 r1 a ha:=by
  show(if a+1=n then p a else a)=a
  split
  ·next h=>exact h2 a h
  ·rfl
 r2 x y b hx hy hb e:=by
  have e:(if b+1=n then p x else x)=if b+1=n then p y else y:=e
  by_cases h:b+1=n
  ·rw[if_pos h,if_pos h] at e;exact h3 x y hx hy e
  ·rw[if_neg h,if_neg h] at e;exact e
 r3 a b c ha hb hc:=by
  show(if c+1=n then p (if b+1=n then p a else a) else if b+1=n then p a else a)=if(if c+1=n then p b else b)+1=n then p (if c+1=n then p a else a) else if c+1=n then p a else a
  by_cases h:c+1=n
  ·rw[if_pos h,if_pos h,if_pos h]
   by_cases g:b+1=n
   ·rw[if_pos g,h2 b g,if_pos g]
   ·rw[if_neg g,if_neg λz=>g ?_]
    have hp:p b=b:=by
     refine h3 _ _ (h1 b hb) hb (h2 _ z)
    rw[hp] at z
    exact z
  ·rw[if_neg h,if_neg h,if_neg h]
theorem Dy (n:Nat):GoodF n (λa b=>if 2<n/\a<2/\b+1=n then 1-a else a):=by
 by_cases hn:2<n
 ·refine(Ul (n:=n) (p:=λa=>if a<2 then 1-a else a) (λa ha=>?_) (λa ha=>if_neg (by omega)) λx y _ _ e=>?_).congr λa b _ _=>?_
  ·show(if a<2 then 1-a else a)<n
   split
   ·omega
   ·exact ha
  ·have e:(if x<2 then 1-x else x)=if y<2 then 1-y else y:=e
   by_cases h:x<2
   ·by_cases g:y<2
    ·rw[if_pos h,if_pos g] at e;clear hn;omega
    ·rw[if_pos h,if_neg g] at e;clear hn;omega
   ·by_cases g:y<2
    ·rw[if_neg h,if_pos g] at e;clear hn;omega
    ·rw[if_neg h,if_neg g] at e;exact e
  ·show(if 2<n/\a<2/\b+1=n then 1-a else a)=if b+1=n then(if a<2 then 1-a else a) else a
   by_cases g:b+1=n
   ·rw[if_pos g]
    by_cases h:a<2
    ·rw[if_pos h,if_pos ⟨hn,h,g⟩]
    ·rw[if_neg h,if_neg λz=>h z.2.1]
   ·rw[if_neg g,if_neg λz=>g z.2.2]
 ·exact(Qu n).congr λa b _ _=>if_neg λz=>hn z.1
theorem Gi (n:Nat):GoodF n (λa b=>if a+1<n/\b+1=n then(if a+2<n then a+1 else 0) else a):=by
 refine(Ul (n:=n) (p:=λa=>if a+1<n then(if a+2<n then a+1 else 0) else a) (λa ha=>?_) (λa ha=>if_neg (by omega)) λx y hx hy e=>?_).congr λa b _ _=>?_
 ·show(if a+1<n then(if a+2<n then a+1 else 0) else a)<n
  split
  ·split
   ·assumption
   ·exact Nat.lt_of_le_of_lt (Nat.zero_le _) ha
  ·exact ha
 ·have e:(if x+1<n then(if x+2<n then x+1 else 0) else x)=if y+1<n then(if y+2<n then y+1 else 0) else y:=e
  by_cases h:x+1<n
  ·rw[if_pos h] at e
   by_cases g:y+1<n
   ·rw[if_pos g] at e
    by_cases h':x+2<n
    ·rw[if_pos h'] at e
     by_cases g':y+2<n
     ·rw[if_pos g'] at e;exact Nat.succ.inj e
     ·rw[if_neg g'] at e;exact nomatch e
    ·rw[if_neg h'] at e
     by_cases g':y+2<n
     ·rw[if_pos g'] at e;exact nomatch e
     ·clear e hx hy;omega
   ·rw[if_neg g] at e
    by_cases h':x+2<n
    ·rw[if_pos h'] at e;clear hx hy h;omega
    ·rw[if_neg h'] at e;clear hx hy h';omega
  ·rw[if_neg h] at e
   by_cases g:y+1<n
   ·rw[if_pos g] at e
    by_cases h':y+2<n
    ·rw[if_pos h'] at e;clear hx hy g;omega
    ·rw[if_neg h'] at e;clear hx hy h';omega
   ·rw[if_neg g] at e;exact e
 ·show(if a+1<n/\b+1=n then(if a+2<n then a+1 else 0) else a)=if b+1=n then(if a+1<n then(if a+2<n then a+1 else 0) else a) else a
  by_cases g:b+1=n
  ·rw[if_pos g]
   by_cases h:a+1<n
   ·rw[if_pos h,if_pos ⟨h,g⟩]
   ·rw[if_neg h,if_neg λz=>h z.1]
  ·rw[if_neg g,if_neg λz=>g z.2]
noncomputable def JE (h:Nat)(f g:Nat->Nat->Nat)(a b:Nat):Nat:=if a<h/\b<h then f a b else if h<=a/\h<=b then h+g (a-h) (b-h) else a
theorem FE {h m:Nat}{f g:Nat->Nat->Nat}(F:GoodF h f)(G:GoodF m g):GoodF (h+m) (JE h f g):=by
 have s1:∀a b,a<h->b<h->JE h f g a b=f a b:=λa b ha hb=>by unfold JE;rw[if_pos ⟨ha,hb⟩]
 have s2:∀a b,JE h f g (h+a) (h+b)=h+g a b:=λa b=>by unfold JE;rw[if_neg (by omega),if_pos (by omega),Nat.add_sub_cancel_left,Nat.add_sub_cancel_left]
 have s3:∀a b,a<h->JE h f g a (h+b)=a:=λa b ha=>by unfold JE;rw[if_neg (by omega),if_neg (by omega)]
 have s4:∀a b,b<h->JE h f g (h+a) b=h+a:=λa b ha=>by unfold JE;rw[if_neg (by omega),if_neg (by omega)]
 have up:∀a,h<=a->∃a',a=h+a':=λa ha=>⟨a-h,by omega⟩
 refine⟨⟨λa b ha hb=>?_,λx y b hx hy hb e=>?_⟩,λa ha=>?_,λa b c ha hb hc=>?_⟩
 ·by_cases h1:a<h<;> by_cases h2:b<h
  ·rw[s1 a b h1 h2];have:=F.lt a b h1 h2;omega
  ·obtain⟨b,rfl⟩:=up b (by omega);rw[s3 a b h1];omega
  ·obtain⟨a,rfl⟩:=up a (by omega);rw[s4 a b h2];omega
  ·obtain⟨a,rfl⟩:=up a (by omega);obtain⟨b,rfl⟩:=up b (by omega)
   rw[s2];have:=G.lt a b (by omega) (by omega);omega
 ·by_cases h1:x<h<;> by_cases h2:y<h<;> by_cases h3:b<h
  ·rw[s1 _ _ h1 h3,s1 _ _ h2 h3] at e;exact F.r2 x y b h1 h2 h3 e
  ·obtain⟨b,rfl⟩:=up b (by omega);rw[s3 _ _ h1,s3 _ _ h2] at e;exact e
  ·obtain⟨y,rfl⟩:=up y (by omega);rw[s1 _ _ h1 h3,s4 _ _ h3] at e;have:=F.lt x b h1 h3;omega
  ·obtain⟨y,rfl⟩:=up y (by omega);obtain⟨b,rfl⟩:=up b (by omega);rw[s3 _ _ h1,s2] at e;omega
  ·obtain⟨x,rfl⟩:=up x (by omega);rw[s4 _ _ h3,s1 _ _ h2 h3] at e;have:=F.lt y b h2 h3;omega
  ·obtain⟨x,rfl⟩:=up x (by omega);obtain⟨b,rfl⟩:=up b (by omega);rw[s2,s3 _ _ h2] at e;omega
  ·obtain⟨x,rfl⟩:=up x (by omega);obtain⟨y,rfl⟩:=up y (by omega);rw[s4 _ _ h3,s4 _ _ h3] at e;exact e
  ·obtain⟨x,rfl⟩:=up x (by omega);obtain⟨y,rfl⟩:=up y (by omega);obtain⟨b,rfl⟩:=up b (by omega)
   rw[s2,s2] at e
   rw[G.r2 x y b (by omega) (by omega) (by omega) (by omega)]
 ·by_cases h1:a<h
  ·rw[s1 _ _ h1 h1,F.r1 a h1]
  ·obtain⟨a,rfl⟩:=up a (by omega);rw[s2,G.r1 a (by omega)]
 ·by_cases h1:a<h<;> by_cases h2:b<h<;> by_cases h3:c<h
  ·rw[s1 a b h1 h2,s1 a c h1 h3,s1 b c h2 h3,s1 _ _ (F.lt a b h1 h2) h3,s1 _ _ (F.lt a c h1 h3) (F.lt b c h2 h3)];exact F.r3 a b c h1 h2 h3
  ·obtain⟨c,rfl⟩:=up c (by omega)
   rw[s1 a b h1 h2,s3 a c h1,s3 b c h2,s3 _ c (F.lt a b h1 h2),s1 a b h1 h2]
  ·obtain⟨b,rfl⟩:=up b (by omega)
   rw[s3 a b h1,s4 b c h3,s1 a c h1 h3,s3 _ b (F.lt a c h1 h3)]
  ·obtain⟨b,rfl⟩:=up b (by omega);obtain⟨c,rfl⟩:=up c (by omega)
   rw[s3 a b h1,s3 a c h1,s2 b c,s3 _ _ h1]
  ·obtain⟨a,rfl⟩:=up a (by omega)
   rw[s4 a b h2,s4 a c h3,s1 b c h2 h3,s4 _ _ (F.lt b c h2 h3)]
  ·obtain⟨a,rfl⟩:=up a (by omega);obtain⟨c,rfl⟩:=up c (by omega)
   rw[s4 a b h2,s2 a c,s3 b c h2,s4 _ _ h2]
  ·obtain⟨a,rfl⟩:=up a (by omega);obtain⟨b,rfl⟩:=up b (by omega)
   rw[s2 a b,s4 _ c h3,s4 a c h3,s4 b c h3,s2 a b]
  ·obtain⟨a,rfl⟩:=up a (by omega);obtain⟨b,rfl⟩:=up b (by omega);obtain⟨c,rfl⟩:=up c (by omega)
   rw[s2 a b,s2 a c,s2 b c,s2,s2,G.r3 a b c (by omega) (by omega) (by omega)]
noncomputable def Gn (way n k a b:Int):Int:=
 if way=1 then(2*b-a) % n else if way=2 then(k*a+(1-k)*b) % n else if way=3/\n > 2/\a<2/\b=n-1 then 1-a else
 if way=6/\a<n-1/\b=n-1 then(a+1) % (n-1) else if way=4/\a<n/2/\b<n/2 then(2*b-a) % (n/2) else
 if way=4/\a≥n/2/\b≥n/2 then n/2+(2*b-a-n/2) % (n-n/2) else a
noncomputable def UK (way k:Int)(n a b:Nat):Nat:=(Gn way n k a b).toNat
theorem VD (n:Int)(a b:Int):(2*b-a) % n=FI (-1) n a b:=by
 unfold FI
 congr 1
 omega
theorem F2 {way k:Int}{n:Nat}(hn:0<n)(hk:Int.gcd k n=1):GoodF n (UK way k n)/\∀a b,a<n->b<n->((UK way k n a b:Nat):Int)=Gn way n k a b:=by
 suffices h:∃f,GoodF n f/\∀a b,a<n->b<n->((f a b:Nat):Int)=Gn way n k a b by
  obtain⟨f,g,e⟩:=h
  have e2:∀a b,a<n->b<n->UK way k n a b=f a b:=λa b ha hb=>by unfold UK;rw[←e a b ha hb];omega
  exact⟨g.congr e2,λa b ha hb=>by rw[e2 a b ha hb];exact e a b ha hb⟩
 unfold Gn
 by_cases w1:way=1
 ·refine⟨_,VG (k:= -1) hn Ga,λa b ha hb=>?_⟩
  rw[if_pos w1,XY hn,VD]
 by_cases w2:way=2
 ·refine⟨_,VG (k:=k) hn (Gk hk),λa b ha hb=>?_⟩
  rw[if_neg w1,if_pos w2,XY hn];rfl
 by_cases w3:way=3
 ·refine⟨_,Dy n,λa b ha hb=>?_⟩
  rw[if_neg w1,if_neg w2]
  by_cases c:2<n/\a<2/\b+1=n
  ·rw[if_pos c,if_pos ⟨w3,by omega,by omega,by omega⟩];omega
  ·rw[if_neg c,if_neg (λz=>c ⟨by omega,by omega,by omega⟩),if_neg (λz=>by omega),if_neg (λz=>by omega),if_neg (λz=>by omega)]
 by_cases w6:way=6
 ·refine⟨_,Gi n,λa b ha hb=>?_⟩
  have n3:¬(way=3/\(n:Int) > 2/\(a:Int)<2/\(b:Int)=n-1):=λz=>w3 z.1
  by_cases c:a+1<n/\b+1=n
  ·have y6:way=6/\(a:Int)<n-1/\(b:Int)=n-1:=⟨w6,by omega,by omega⟩
   rw[if_pos c,if_neg w1,if_neg w2,if_neg n3,if_pos y6]
   by_cases c2:a+2<n
   ·rw[if_pos c2,Int.emod_eq_of_lt (by omega) (by omega)];omega
   ·rw[if_neg c2]
    have:(a:Int)+1=(n:Int)-1:=by omega
    rw[this,Int.emod_self];rfl
  ·rw[if_neg c,if_neg w1,if_neg w2,if_neg n3,if_neg (λz=>c ⟨by omega,by omega⟩),if_neg (λz=>by omega),if_neg (λz=>by omega)]
 by_cases w4:way=4
 ·have hh:∀m:Nat,0<m->GoodF m (DN (-1) m):=λm hm=>VG hm Ga
  by_cases h0:n/2=0
  ·have hn1:n=1:=by omega
   subst hn1
   refine⟨_,Qu 1,λa b ha hb=>?_⟩
   have:a=0:=by omega
   have:b=0:=by omega
   subst a b
   rw[if_neg w1,if_neg w2,if_neg (λz=>w3 z.1),if_neg (λz=>w6 z.1),if_neg (λz=>by omega),if_pos ⟨w4,by omega,by omega⟩]
   decide
  ·have g:=FE (hh (n/2) (by omega)) (hh (n-n/2) (by omega))
   rw[show n/2+(n-n/2)=n by omega] at g
   refine⟨_,g,λa b ha hb=>?_⟩
   have hc:((n/2:Nat):Int)=(n:Int)/2:=by omega
   rw[if_neg w1,if_neg w2,if_neg (λz=>w3 z.1),if_neg (λz=>w6 z.1)]
   unfold JE
   by_cases c1:a<n/2/\b<n/2
   ·rw[if_pos c1,if_pos ⟨w4,by omega,by omega⟩,XY (by omega), ←VD,hc]
   ·have m4:¬(way=4/\(a:Int)<(n:Int)/2/\(b:Int)<(n:Int)/2):=λz=>c1 ⟨by omega,by omega⟩
    rw[if_neg c1,if_neg m4]
    by_cases c2:n/2<=a/\n/2<=b
    ·have y4:way=4/\(a:Int)≥(n:Int)/2/\(b:Int)≥(n:Int)/2:=⟨w4,by omega,by omega⟩
     rw[if_pos c2,if_pos y4]
     have hm:(((n-n/2:Nat)):Int)=(n:Int)-(n:Int)/2:=by omega
     have:=XY (k:=-1) (n:=n-n/2) (by omega) (a-n/2) (b-n/2)
     rw[←VD,hm] at this
     rw[show 2*(b:Int)-a-(n:Int)/2=2*((b-n/2:Nat):Int)-((a-n/2:Nat):Int) by omega, ←this]
     omega
    ·rw[if_neg c2,if_neg (λz=>c2 ⟨by omega,by omega⟩)]
 refine⟨_,Qu n,λa b ha hb=>?_⟩
 rw[if_neg w1,if_neg w2,if_neg (λz=>w3 z.1),if_neg (λz=>w6 z.1),if_neg (λz=>w4 z.1),if_neg (λz=>w4 z.1)]
noncomputable def QQ (a b:Nat):Nat:=(([[0,3,1,2],[2,1,3,0],[3,0,2,1],[1,2,0,3]]:List (List Nat)).getD a []).getD b 0
theorem FR:GoodF 4 QQ:=by
 have h1:∀a,a<4->∀b,b<4->QQ a b<4:=by decide+kernel
 have h2:∀b,b<4->∀x,x<4->∀y,y<4->QQ x b=QQ y b->x=y:=by decide+kernel
 have h3:∀a,a<4->QQ a a=a:=by decide+kernel
 have h4:∀a,a<4->∀b,b<4->∀c,c<4->QQ (QQ a b) c=QQ (QQ a c) (QQ b c):=by decide+kernel
 exact⟨⟨λa b ha hb=>h1 a ha b hb,λx y b hx hy hb=>h2 b hb x hx y hy⟩,h3,λa b c ha hb hc=>h4 a ha b hb c hc⟩
theorem CH:ZD 4 QQ=[[0,3,1,2],[2,1,3,0],[3,0,2,1],[1,2,0,3]]:=by decide+kernel
end My
namespace My
open PySem L2
theorem Bd {n:Nat}{f:Nat->Nat->Nat}{a:Nat}(h:a<n):atR (ZD n f) (a:Int)= .ok (ZY n f a):=Ql (Je h)
theorem He {n:Nat}{f:Nat->Nat->Nat}{a b:Nat}(h:b<n):atR (ZY n f a) (b:Int)= .ok (f a b:Int):=Ql (Jz h)
theorem G8 {α:Type}{as:List α}{i:Nat}{a:α}(h:i<as.length):Qa as (i:Int) a= .ok (as.set i a):=by
 unfold Qa ixN
 rw[if_pos (by omega),if_pos (by omega)]
 simp
theorem B1 {n:Nat}{f:Nat->Nat->Nat}{a b v:Nat}:(ZY n f a).set b (v:Int)=ZY n (λx y=>if x=a/\y=b then v else f x y) a:=by
 apply List.ext_getElem?
 intro j
 by_cases hj:j<n
 ·rw[Jz hj]
  by_cases e:j=b
  ·subst e;rw[List.getElem?_set_self (by rw[YS];exact hj)];simp
  ·rw[List.getElem?_set_ne (λz=>e z.symm),Jz hj];simp[e]
 ·rw[List.getElem?_eq_none (by rw[List.length_set,YS];omega),List.getElem?_eq_none (by rw[YS];omega)]
theorem Ee {n:Nat}{f:Nat->Nat->Nat}{a b v:Nat}(ha:a<n):(ZD n f).set a ((ZY n f a).set b (v:Int))=ZD n (λx y=>if x=a/\y=b then v else f x y):=by
 apply List.ext_getElem?
 intro j
 by_cases hj:j<n
 ·rw[Je hj]
  by_cases e:j=a
  ·subst e;rw[List.getElem?_set_self (by rw[Yl];exact hj),B1]
  ·rw[List.getElem?_set_ne (λz=>e z.symm),Je hj]
   congr 1
   exact Jk λy _=>by simp[e]
 ·rw[List.getElem?_eq_none (by rw[List.length_set,Yl];omega),List.getElem?_eq_none (by rw[Yl];omega)]
noncomputable def V1 (n:Nat)(sp:List Int)(p q:Nat->Nat):Prop:=PermN n p q/\sp=(List.range n).map λi=>((p i:Nat):Int)
theorem V1.get {n:Nat}{sp:List Int}{p q:Nat->Nat}(h:V1 n sp p q){i:Nat}(hi:i<n):atR sp (i:Int)= .ok ((p i:Nat):Int):=Ql (by rw[h.2,List.getElem?_map,List.getElem?_range hi];rfl)
theorem HG {as:List Int}{i:Nat}(h:i<as.length)(hl:as.length<=100000):Cq as (i:Int)= .ok (as[i],as.eraseIdx i):=by
 unfold Cq
 rw[Xq (by omega)]
 have e:seqIndex? (i:Int) as.length=some i:=by
  unfold seqIndex?
  have h0:¬((i:Int)<0):=by omega
  simp[h0,h]
 rw[e]
 simp[h]
theorem CQ {n:Nat}{sp:List Int}(h:sp.Perm ((List.range n).map λ(i:Nat)=>(i:Int))):∃p q,V1 n sp p q:=by
 have hl:sp.length=n:=by have:=h.length_eq;simpa using this
 have hlt:∀i,i<n->∃k:Nat,k<n/\sp[i]?=some (k:Int):=λi hi=>by
  have hm:sp[i]'(by omega)∈(List.range n).map λ(i:Nat)=>(i:Int):=h.mem_iff.mp (List.getElem_mem _)
  obtain⟨k,hk,e⟩:=Ja hm
  exact⟨k,hk,by rw[List.getElem?_eq_getElem (by omega),e]⟩
 let p:Nat->Nat:=λi=>(sp[i]?.getD 0).toNat
 have hp:∀i,i<n->p i<n/\sp[i]?=some (p i:Int):=λi hi=>by
  obtain⟨k,hk,e⟩:=hlt i hi
  have:p i=k:=by simp[p,e]
  rw[this];exact⟨hk,e⟩
 have nd:sp.Nodup:=h.nodup_iff.mpr (by
  rw[List.nodup_iff_pairwise_ne,List.pairwise_map]
  exact List.nodup_range.imp fun {a b} h e=>h (by omega))
 obtain⟨q,hq⟩:=BT (n:=n) (p:=p) (λa ha=>(hp a ha).1) λa b ha hb e=>by
  have h1:=(hp a ha).2
  have h2:=(hp b hb).2
  rw[←e] at h2
  exact(List.getElem?_inj (by omega) nd).mp (h1.trans h2.symm)
 refine⟨p,q,hq,?_⟩
 apply List.ext_getElem?
 intro i
 by_cases hi:i<n
 ·rw[(hp i hi).2,List.getElem?_map,List.getElem?_range hi];rfl
 ·rw[List.getElem?_eq_none (by omega),List.getElem?_eq_none (by simp;omega)]
theorem JR:∀{as:List Int}{i:Nat} (h:i<as.length),(as[i]::as.eraseIdx i).Perm as
 |a::as,0,_=>by simp
 |a::as,i+1,h=>by
  have:=JR (as:=as) (i:=i) (by simpa using h)
  simp only[List.getElem_cons_succ,List.eraseIdx_cons_succ]
  exact(List.Perm.swap _ _ _).trans (this.cons a)
theorem Ky {α:Type}(as:List α){k:Nat}(h:k<=as.length):GG as (some (k:Int)) none=as.drop k:=by
 unfold GG
 rw[HT.sIx_nat,HT.sIx_none,Nat.min_eq_left h,List.take_of_length_le (by rw[List.length_drop];omega)]
end My
namespace My
theorem mem_set {α:Type}:∀{l:List α}{j:Nat}{v x:α},x∈l.set j v->x∈l∨x=v
 | [],_,_,_,h=>by simp at h
 |a::r,0,v,x,h=>by
  rw[List.set_cons_zero] at h
  rcases List.mem_cons.mp h with h |h
  ·exact .inr h
  ·exact .inl (List.mem_cons_of_mem _ h)
 |a::r,j+1,v,x,h=>by
  rw[List.set_cons_succ] at h
  rcases List.mem_cons.mp h with h |h
  ·exact .inl (by rw[h];exact List.mem_cons_self)
  ·rcases mem_set h with h |h
   ·exact .inl (List.mem_cons_of_mem _ h)
   ·exact .inr h
end My
namespace My
noncomputable def HL (S:Nat):List Int:=(List.range S).map λ(k:Nat)=>(k:Int)
theorem CJ {S:Nat}{x:Int}:x∈HL S↔0<=x/\x<(S:Int):=by
 unfold HL
 rw[List.mem_map]
 constructor
 ·rintro⟨k,hk,rfl⟩
  have:=List.mem_range.mp hk
  omega
 ·rintro⟨h0,h1⟩
  exact⟨x.toNat,List.mem_range.mpr (by omega),by omega⟩
theorem Qn {α β:Type}{f:α->β}:∀{l:List α},(∀a b,a∈l->b∈l->f a=f b->a=b)->l.Nodup->(l.map f).Nodup
 | [],_,_=>List.nodup_nil
 |a::r,h,nd=>by
  rw[List.map_cons,List.nodup_cons]
  refine⟨λm=>?_,Qn (λx y hx hy=>h x y (List.mem_cons_of_mem _ hx) (List.mem_cons_of_mem _ hy)) (List.nodup_cons.mp nd).2⟩
  obtain⟨b,hb,e⟩:=List.mem_map.mp m
  have:=h b a (List.mem_cons_of_mem _ hb) List.mem_cons_self e
  exact(List.nodup_cons.mp nd).1 (by rw[←this];exact hb)
theorem Gw (S:Nat):(HL S).Nodup:=Qn (λa b _ _ e=>by omega) List.nodup_range
theorem JY {α:Type}[DecidableEq α]:∀{l m:List α},l.Nodup->m.Nodup->(∀x,x∈l↔x∈m)->l.Perm m
 | [],m,_,_,h=>by
  cases m with
  |nil=>exact List.Perm.refl _
  |cons a r=>exact absurd ((h a).mpr List.mem_cons_self) (by simp)
 |a::r,m,nl,nm,h=>by
  have ha:a∈m:=(h a).mp List.mem_cons_self
  have hp:m.Perm (a::m.erase a):=List.perm_cons_erase ha
  refine List.Perm.trans (List.Perm.cons a ?_) hp.symm
  have nd2:(a::m.erase a).Nodup:=hp.nodup_iff.mp nm
  refine JY (List.nodup_cons.mp nl).2 (List.nodup_cons.mp nd2).2 λx=>?_
  constructor
  ·intro hx
   have hxa:x≠a:=λe=>(List.nodup_cons.mp nl).1 (by rw[←e];exact hx)
   have:x∈a::m.erase a:=hp.mem_iff.mp ((h x).mp (List.mem_cons_of_mem _ hx))
   exact(List.mem_cons.mp this).resolve_left hxa
  ·intro hx
   have hxa:x≠a:=λe=>(List.nodup_cons.mp nd2).1 (e▸hx)
   have:x∈a::r:=(h x).mpr (hp.mem_iff.mpr (List.mem_cons_of_mem _ hx))
   exact(List.mem_cons.mp this).resolve_left hxa
end My
namespace My
structure Done (S:Int)(seen:List Bool)(ps:List Int):Prop where
 nd:ps.Nodup
 at':∀p∈ps,0<=p/\p<S/\seen[p.toNat]?=some true
 of:∀q:Nat,seen[q]?=some true->(q:Int)∈ps
theorem Done.none (S:Int)(n:Nat):Done S (List.replicate n false) []:=
 ⟨List.nodup_nil,λp h=>by simp at h,λq h=>by
  rw[List.getElem?_replicate] at h
  split at h<;> cases h⟩
theorem DU {l:List Bool}{j q:Nat}(h:l[q]?=some true):(l.set j true)[q]?=some true:=by
 by_cases e:j=q
 ·subst e
  rw[List.getElem?_set_self (List.getElem?_eq_some_iff.mp h).1]
 ·rw[List.getElem?_set_ne e];exact h
theorem Done.snoc {S:Int}{seen:List Bool}{ps:List Int}{a:Int}(h:Done S seen ps)(a0:0<=a)(a1:a<S)(e:seen[a.toNat]?=some false):Done S (seen.set a.toNat true) (ps++[a]):=by
 have hl:a.toNat<seen.length:=(List.getElem?_eq_some_iff.mp e).1
 have hn:a∉ps:=λm=>by
  have:=(h.at' a m).2.2
  rw[e] at this;cases this
 refine⟨?_,λp hp=>?_,λq hq=>?_⟩
 ·rw[List.nodup_append]
  refine⟨h.nd,by simp,λx hx y hy=>?_⟩
  rw[List.mem_singleton.mp hy]
  exact λe=>hn (e▸hx)
 ·rcases List.mem_append.mp hp with hp |hp
  ·obtain⟨h1,h2,h3⟩:=h.at' p hp
   exact⟨h1,h2,DU h3⟩
  ·rw[List.mem_singleton.mp hp]
   exact⟨a0,a1,by rw[List.getElem?_set_self hl]⟩
 ·by_cases hqa:a.toNat=q
  ·exact List.mem_append_right _ (List.mem_singleton.mpr (by omega))
  ·rw[List.getElem?_set_ne hqa] at hq
   exact List.mem_append_left _ (h.of q hq)
theorem Done.all {S:Int}{seen:List Bool}{ps:List Int}(h:Done S seen ps)(hl:seen.length=S.toNat)(h0:0<=S)(ha:∀q:Nat,q<S.toNat->seen[q]?=some true):ps.Perm (HL S.toNat):=by
 refine JY h.nd (Gw _) λx=>?_
 rw[CJ]
 constructor
 ·intro hx
  obtain⟨h1,h2,_⟩:=h.at' x hx
  omega
 ·rintro⟨x0,x1⟩
  have:=h.of x.toNat (ha x.toNat (by omega))
  rw[show((x.toNat:Nat):Int)=x by omega] at this
  exact this
end My
namespace My
open PySem L2
theorem FN (ns:List Int){p:Int}(hp:0<=p):∃c,Jv ns p= .ok c:=by
 unfold Jv
 simp only[Rs.okb]
 by_cases h:p<(ns.length:Int)
 ·rw[decide_eq_true h,if_pos rfl]
  have hl:p.toNat<ns.length:=by omega
  exact⟨ns[p.toNat],EW hp (by simp[hl])⟩
 ·rw[decide_eq_false h,if_neg Bool.false_ne_true]
  obtain⟨g,e,_⟩:=KO (as:=GG ns none (some 63)) (g:=(5:Int)) (f:=λg15 a17=>(Rs.bind (Rs.bind (Rs.bind (Rs.bind (JC g15 48271) λx25=>(Rs.bind (Qo a17 1000003) λx26=>(Rs.ok (x25+x26)))) λx27=>Rs.ok (x27+1)) λx29=>Qo x29 2147483647) λa19=>(Rs.ok (a19)))) (λ_ _=>True) True.intro λi a g _ _=>by
   rw[QA (by decide) (by decide),Rs.ok_bind,Yc (by decide),Rs.ok_bind,Rs.ok_bind,Rs.ok_bind,Yc (by decide),Rs.ok_bind]
   exact⟨_,rfl,True.intro⟩
  rw[e,Rs.ok_bind,ZM (by decide) (by decide),Rs.ok_bind,Rs.ok_bind,Yc (by decide)]
  exact⟨_,rfl⟩
theorem Bo (c:Int){k:Int}(h0:0<=k)(h1:k<=100000):∃y,Ka c k= .ok y/\0<=y:=by
 unfold Ka
 simp only[Rs.okb]
 have hm:0<=c % 2147483629/\c % 2147483629<2147483629:=⟨Int.emod_nonneg _ (by decide),Int.emod_lt_of_pos _ (by decide)⟩
 rw[Yc (by decide),Rs.ok_bind,ZM (by decide) (by decide),Rs.ok_bind,Rs.ok_bind,Rs.ok_bind,J9 (by decide) (by decide) (by omega) (by omega),Rs.ok_bind,Yc (by decide),Rs.ok_bind]
 rw[QA (by decide) (by decide),Rs.ok_bind,ZM (by decide) (by decide),Rs.ok_bind,QA (by omega) (by omega),Rs.ok_bind,Rs.ok_bind,Rs.ok_bind,Yc (by decide),Rs.ok_bind,GP (by decide) (by decide)]
 exact⟨_,rfl,Int.ediv_nonneg (Int.emod_nonneg _ (by decide)) (by decide)⟩
theorem KY (ns:List Int){p:Int}(hp:0<=p)(sizes:List Int)(hl:sizes.length<=100000)(hs:∀x∈sizes,0<x/\x<2^250):
  Ok (JF ns p sizes) λr=>r.length=sizes.length/\∀(i:Nat) x s,r[i]?=some x->sizes[i]?=some s->0<=x/\x<s:=by
 obtain⟨c,ec⟩:=FN ns hp
 unfold JF
 simp only[Rs.okb]
 rw[ec,show noE (Rs.ok c)= .ok c from rfl,Rs.ok_bind,JS (by omega),Rs.ok_bind,J9 (by decide) (by decide) (by decide) (by decide)]
 simp only[Rs.okb]
 have key:∀(i:Nat) (a:Int) (g:List Int×Int),((List.range sizes.length).map λ(i:Nat)=>(i:Int))[i]?=some a->(g.1.length=i/\∀(j:Nat) x s,g.1[j]?=some x->sizes[j]?=some s->0<=x/\x<s)->∀y z:Int,∀s,sizes[i]?=some s->0<=y/\y<s->((g.1++[y],z).1.length=i+1/\∀(j:Nat) x s,(g.1++[y],z).1[j]?=some x->sizes[j]?=some s->0<=x/\x<s):=by
  intro i a g ha ⟨hg,hq⟩ y z s hs1 hy
  refine⟨by simp[hg],λj x s' hx hs'=>?_⟩
  have hx:(g.1++[y])[j]?=some x:=hx
  rcases Nat.lt_trichotomy j i with hj |hj |hj
  ·rw[List.getElem?_append_left (by omega)] at hx;exact hq j x s' hx hs'
  ·subst hj
   rw[List.getElem?_append_right (by omega),hg,Nat.sub_self] at hx
   have:y=x:=by simpa using hx
   rw[hs1] at hs'
   cases hs'
   rw[←this];exact hy
  ·rw[List.getElem?_eq_none (by simp;omega)] at hx;cases hx
 refine Ok.bind (Ok.forN (λi (g:List Int×Int)=>g.1.length=i/\∀(j:Nat) x s,g.1[j]?=some x->sizes[j]?=some s->0<=x/\x<s) ⟨rfl,λj x s h _=>by simp at h⟩ λi a g ha hg=>?_) (T:=λ(r:List Int)=>r.length=sizes.length/\∀(i:Nat) x s,r[i]?=some x->sizes[i]?=some s->0<=x/\x<s) λg ⟨hg,hq⟩=>?_
 ·obtain⟨rfl,hi⟩:=Y7 ha
  have hsz:sizes[i]?=some sizes[i]:=by simp[hi]
  have hsp:=hs _ (List.getElem_mem hi)
  have hgl:g.1.length<sizeLine:=DP (by have:=hg.1;omega)
  by_cases hc:c<10^(18:Int).toNat
  ·rw[decide_eq_true hc,if_pos rfl]
   obtain⟨y,ey,hy⟩:=Bo c (k:=(i:Int)) (by omega) (by omega)
   rw[ey,show noE (Rs.ok y)= .ok y from rfl,Rs.ok_bind,Ql hsz,Rs.ok_bind,Yc hsp.1,Rs.ok_bind,Xq hgl]
   exact⟨_,rfl,key i _ g ha hg _ _ _ hsz ⟨Int.emod_nonneg _ (by omega),Int.emod_lt_of_pos _ hsp.1⟩⟩
  ·rw[decide_eq_false hc,if_neg Bool.false_ne_true]
   by_cases hq:0<g.2
   ·rw[decide_eq_true hq,if_pos rfl,Ql hsz,Rs.ok_bind,Yc hsp.1,Rs.ok_bind,Xq hgl]
    simp only[Rs.okb]
    rw[GP hsp.1 hsp.2]
    exact⟨_,rfl,key i _ g ha hg _ _ _ hsz ⟨Int.emod_nonneg _ (by omega),Int.emod_lt_of_pos _ hsp.1⟩⟩
   ·rw[decide_eq_false hq,if_neg Bool.false_ne_true,Yc (by decide),Rs.ok_bind]
    obtain⟨c2,ec2⟩:=FN ns (p:=(p+1+(i:Int)) % 63) (Int.emod_nonneg _ (by decide))
    obtain⟨y,ey,hy⟩:=Bo c2 (k:=(i:Int)) (by omega) (by omega)
    rw[ec2,show noE (Rs.ok c2)= .ok c2 from rfl,Rs.ok_bind,ey,show noE (Rs.ok y)= .ok y from rfl,Rs.ok_bind,Ql hsz,Rs.ok_bind,Yc hsp.1,Rs.ok_bind,Xq hgl]
    exact⟨_,rfl,key i _ g ha hg _ _ _ hsz ⟨Int.emod_nonneg _ (by omega),Int.emod_lt_of_pos _ hsp.1⟩⟩
 ·rw[Y9] at hg
  exact⟨g.1,rfl,hg,hq⟩
theorem JW {α:Type}{r:List α}{k:Int}{n:Nat}(e:k=(n:Int))(h:n<r.length):atR r k= .ok r[n]:=by
 subst e;exact Ql (by simp[h])
theorem Vz {γ:Type}{c:γ->Rs Bool}{f:γ->Rs γ}(P:γ->Prop)(μ:γ->Nat)(hs:∀g,P g->∃b,c g= .ok b/\(b=true->Ok (f g) λg'=>P g'/\μ g'<μ g)):∀(n:Nat) (g:γ),P g->μ g<n->Ok (QM n g c f) λg'=>P g'/\c g'= .ok false
 |0,_,_,h=>by omega
 |n+1,g,hp,hm=>by
  obtain⟨b,hb,h⟩:=hs g hp
  show Ok ((c g).bind _) _
  rw[hb,Rs.okb]
  cases b with
  |false=>rw[if_neg Bool.false_ne_true];exact⟨g,rfl,hp,hb⟩
  |true=>
   rw[if_pos rfl]
   exact Ok.bind (h rfl) λg' h'=>Vz P μ hs n g' h'.1 (by omega)
theorem Gr {r:List Int}{n:Nat}(hn:n<=1000)(hr:n<=r.length):Ok (Zz r (n:Int)) λsp=>∃ p q,V1 n sp p q:=by
 unfold Zz
 simp only[Rs.okb]
 rw[Xq (by omega)]
 simp only[Rs.okb]
 rw[JS (by omega)]
 simp only[Rs.okb]
 have e0:ZK 0 (n:Int)=(List.range n).map λ(i:Nat)=>(i:Int):=by
  unfold ZK
  rw[Int.sub_zero,Int.toNat_natCast]
  exact List.map_congr_left λi _=>by omega
 refine Ok.bind (Ok.forN (λi (g:List Int×List Int)=>g.1.length=i/\(g.1++g.2).Perm ((List.range n).map λ(i:Nat)=>(i:Int))) ⟨rfl,by rw[e0];exact List.Perm.refl _⟩ λi a g ha hg=>?_) λg hg=>?_
 ·obtain⟨rfl,hi⟩:=Y7 ha
  obtain⟨h1,h2⟩:=hg
  have hl:=h2.length_eq
  simp only[List.length_append,List.length_map,List.length_range] at hl
  have hri:r[i]?=some r[i]:=by simp[show i<r.length by omega]
  have hpos:(0:Int)<(g.2.length:Int):=by omega
  have hm1:=Int.emod_nonneg r[i] (show(g.2.length:Int)≠0 by omega)
  have hm2:=Int.emod_lt_of_pos r[i] hpos
  rw[Ql hri,Rs.okb,Yc hpos,Rs.okb]
  generalize hk:r[i] % (g.2.length:Int)=k at hm1 hm2
  obtain⟨j,rfl⟩:∃j:Nat,k=j:=⟨k.toNat,by omega⟩
  have hj:j<g.2.length:=by omega
  rw[HG hj (by omega),Rs.okb,Xq (DP (by omega))]
  refine⟨_,rfl,by simp[h1],?_⟩
  refine List.Perm.trans ?_ h2
  show((g.1++[g.2[j]])++g.2.eraseIdx j).Perm (g.1++g.2)
  rw[List.append_assoc]
  exact(JR hj).append_left _
 ·obtain⟨h1,h2⟩:=hg
  rw[Y9] at h1
  have hl:=h2.length_eq
  simp only[List.length_append,List.length_map,List.length_range] at hl
  have:g.2=[]:=List.length_eq_zero_iff.mp (by omega)
  rw[this,List.append_nil] at h2
  exact⟨_,rfl,CQ h2⟩
theorem FW {n:Nat}{f:Nat->Nat->Nat}{sp:List Int}{p q:Nat->Nat}(hn:n<=1000)(hf:∀a b,a<n->b<n->f a b<n)(hp:V1 n sp p q):ZX (ZD n f) sp= .ok (ZD n λx y=>p (f (q x) (q y))):=by
 have P:=hp.1
 unfold ZX
 simp only[Rs.okb]
 rw[ZB (h:=λa=>a) (sz (by rw[Yl];omega)) λa _=>rfl,Rs.okb]
 simp only[List.map_id',Yl]
 rw[JS (by omega),Rs.okb]
 apply Ok.eq
 refine Ok.bind (Ok.forN (λi g=>g=ZD n λx y=>if q x<i then p (f (q x) (q y)) else f x y) (Ze λx y _ _=>by simp) λi a g ha hg=>?_) λg hg=>⟨g,rfl,?_⟩
 ·obtain⟨rfl,hi⟩:=Y7 ha
  subst hg
  simp only[Rs.okb]
  refine Ok.bind (Ok.forN (λj g=>g=ZD n λx y=>if q x<i∨(q x=i/\q y<j) then p (f (q x) (q y)) else f x y) (Ze λx y _ _=>by simp) λj b g hb hg=>?_) λg hg=>⟨g,rfl,?_⟩
  ·obtain⟨rfl,hj⟩:=Y7 hb
   subst hg
   have hv:=hf i j hi hj
   rw[Bd hi,Rs.okb,He hj,Rs.okb,hp.get hv,Rs.okb,hp.get hi,Rs.okb,Bd (P.lt i hi),Rs.okb,hp.get hj,Rs.okb,G8 (by rw[YS];exact P.lt j hj),Rs.okb,G8 (by rw[Yl];exact P.lt i hi),Rs.okb]
   refine⟨_,rfl,?_⟩
   rw[Ee (P.lt i hi)]
   refine Ze λx y hx hy=>?_
   by_cases e:x=p i/\y=p j
   ·rw[if_pos e,e.1,e.2,P.qp i hi,P.qp j hj,if_pos (by omega)]
   ·rw[if_neg e]
    have:¬(q x=i/\q y=j):=λ⟨e1,e2⟩=>e ⟨by rw[←e1,P.pq x hx],by rw[←e2,P.pq y hy]⟩
    by_cases c:q x<i∨(q x=i/\q y<j)
    ·rw[if_pos c,if_pos (by omega)]
    ·rw[if_neg c,if_neg (by omega)]
  ·subst hg
   rw[Y9]
   refine Ze λx y hx hy=>?_
   have:=P.qlt y hy
   by_cases c:q x<i+1
   ·rw[if_pos c,if_pos (by omega)]
   ·rw[if_neg c,if_neg (by omega)]
 ·subst hg
  rw[Y9]
  exact Ze λx y hx hy=>by rw[if_pos (P.qlt x hx)]
theorem Vg (a b:Bool):JH (.ok a) (.ok b)= .ok (a&&b):=GN λ_=>rfl
theorem Gp {way k:Int}{n a b:Nat}(hn:0<n)(h1:n<=1000)(ha:a<n)(hb:b<n):Zb way (n:Int) k (a:Int) (b:Int)= .ok (Gn way n k a b):=by
 unfold Zb Gn
 simp only[Rs.okb,Vg,Bool.and_eq_true,decide_eq_true_eq,gt_iff_lt,ge_iff_le]
 rw[GP (by decide) (by decide)]
 simp only[Rs.okb,Vg,Bool.and_eq_true,decide_eq_true_eq]
 rw[ZM (a:=2) (by decide) (by decide),QA (a:=k) (by omega) (by omega),QA (a:=1-k) (by omega) (by omega)]
 simp only[Rs.okb]
 by_cases c1:way=1
 ·rw[if_pos c1,if_pos c1];exact Yc (by omega)
 rw[if_neg c1,if_neg c1]
 by_cases c2:way=2
 ·rw[if_pos c2,if_pos c2];exact Yc (by omega)
 rw[if_neg c2,if_neg c2]
 by_cases c3:way=3/\2<(n:Int)/\(a:Int)<2/\(b:Int)=(n:Int)-1
 ·rw[if_pos c3,if_pos c3]
 rw[if_neg c3,if_neg c3]
 by_cases c4:way=6/\(a:Int)<(n:Int)-1/\(b:Int)=(n:Int)-1
 ·rw[if_pos c4,if_pos c4];exact Yc (by omega)
 rw[if_neg c4,if_neg c4]
 by_cases c5:way=4/\(a:Int)<(n:Int)/2/\(b:Int)<(n:Int)/2
 ·rw[if_pos c5,if_pos c5];exact Yc (by omega)
 rw[if_neg c5,if_neg c5]
 by_cases c6:way=4/\(n:Int)/2<=(a:Int)/\(n:Int)/2<=(b:Int)
 ·rw[if_pos c6,if_pos c6,Yc (by omega),Rs.okb]
 rw[if_neg c6,if_neg c6]
theorem V8 (x y:Int):ZP x y= .ok (Int.gcd x y:Int):=by
 unfold ZP
 simp only[Rs.okb]
 apply Ok.eq
 refine Ok.bind (Vz (λg:Int×Int=>∃ u v:Nat,g=((u:Int),(v:Int))/\Nat.gcd u v=Int.gcd x y) (λg=>g.2.toNat) (λg hg=>?_) _ ((x.natAbs:Int),(y.natAbs:Int)) ⟨x.natAbs,y.natAbs,rfl,rfl⟩ ?_) λg hg=>?_
 ·obtain⟨u,v,rfl,h⟩:=hg
  refine⟨_,rfl,λc=>?_⟩
  have c':(0:Int)<(v:Int):=of_decide_eq_true c
  show Ok ((Qo (u:Int) (v:Int)).bind _) _
  rw[Yc c',Rs.okb]
  refine⟨_,rfl,⟨v,u % v,by rw[Int.natCast_emod],?_⟩,?_⟩
  ·rw[←h,Nat.gcd_comm u v,Nat.gcd_rec v u,Nat.gcd_comm]
  ·show((u:Int) % (v:Int)).toNat<((v:Int)).toNat
   have:=Int.emod_lt_of_pos (u:Int) c'
   have:=Int.emod_nonneg (u:Int) (show(v:Int)≠0 by omega)
   omega
 ·show((y.natAbs:Int)).toNat<_
  omega
 ·obtain⟨⟨u,v,rfl,h⟩,hc⟩:=hg
  have hc':¬(0:Int)<(v:Int):=by
   have:=Rs.ok.inj hc
   simpa using this
  have:v=0:=by omega
  subst this
  rw[Nat.gcd_zero_right] at h
  exact⟨_,rfl,by show(u:Int)=_;rw[h]⟩
theorem Ej {n:Nat}{t z:Int}(h:t=1+(n:Int)*z):Int.gcd t n=1:=by
 have h1:((Int.gcd t n:Nat):Int)∣t:=Int.gcd_dvd_left ..
 have h2:((Int.gcd t n:Nat):Int)∣(n:Int):=Int.gcd_dvd_right ..
 have h3:((Int.gcd t n:Nat):Int)∣1:=by
  have:(1:Int)=t-(n:Int)*z:=by omega
  rw[this]
  exact Int.dvd_sub h1 (Int.dvd_trans h2 (Int.dvd_mul_right ..))
 have h4:=Int.eq_one_of_dvd_one (by omega) h3
 omega
theorem Ef {way k:Int}{n:Nat}(hn:0<n)(h1:n<=1000):Ok (JO way (n:Int) k) λt=>∃ f,GoodF n f/\t=ZD n f:=by
 unfold JO
 simp only[Rs.okb,Vg,Bool.and_eq_true,decide_eq_true_eq]
 by_cases c5:way=5/\(n:Int)=4
 ·rw[if_pos c5]
  have hn:n=4:=by omega
  subst hn
  exact⟨[[0,3,1,2],[2,1,3,0],[3,0,2,1],[1,2,0,3]],rfl,QQ,FR,CH.symm⟩
 rw[if_neg c5]
 have ht:=Int.emod_add_mul_ediv (1-k) (n:Int)
 have ht0:=Int.emod_nonneg (1-k) (show(n:Int)≠0 by omega)
 have ht1:=Int.emod_lt_of_pos (1-k) (show(0:Int)<(n:Int) by omega)
 generalize hq:(1-k) % (n:Int)=m at ht ht0 ht1
 have hcop:Int.gcd (k+m) n=1:=Ej (z:=-((1-k)/(n:Int))) (by rw[Int.mul_neg];omega)
 refine Ok.bind (Vz (λg:Int=>k<=g/\g<=k+m) (λg=>(k+m-g).toNat) (λg hg=>?_) _ k ⟨Int.le_refl _,by omega⟩ ?_) λg hg=>?_
 ·rw[V8,Yq,Rs.okb]
  refine⟨_,rfl,λc=>?_⟩
  have hne:g≠k+m:=λe=>by
   rw[e,hcop] at c
   exact absurd c (by decide)
  refine⟨_,rfl,⟨by omega,by omega⟩,?_⟩
  show(k+m-(g+1)).toNat<(k+m-g).toNat
  omega
 ·show(k+m-k).toNat<_
  omega
 ·obtain⟨_,hc⟩:=hg
  rw[V8,Yq,Rs.okb] at hc
  have hg1:Int.gcd g n=1:=by
   have:=Rs.ok.inj hc
   simp at this
   omega
  obtain⟨gd,hce⟩:=F2 (way:=way) (k:=g) (n:=n) hn hg1
  refine⟨ZD n (UK way g n),?_,_,gd,rfl⟩
  rw[JS (by omega),Rs.okb]
  have hrow:∀a:Nat,a<n->JK ((List.range n).map λ(i:Nat)=>(i:Int)) (λb=>noE (Zb way (n:Int) g (a:Int) b))= .ok (ZY n (UK way g n) a):=λa ha=>by
   rw[ZB (h:=λx=>((UK way g n a x.toNat:Nat):Int)) (sz (by simp;omega)) λx hx=>?_]
   ·rw[List.map_map];rfl
   ·obtain⟨b,hb,rfl⟩:=Ja hx
    rw[Gp hn h1 ha hb,Yq,Int.toNat_natCast,hce a b ha hb]
  rw[Ur (h:=λx=>ZY n (UK way g n) x.toNat) (sz (by simp;omega)) λl hl x hx=>?_]
  ·rw[Rs.okb,List.nil_append,List.map_map];rfl
  ·obtain⟨a,ha,rfl⟩:=Ja hx
   rw[Rs.okb,hrow a ha,Rs.okb,Xq hl,Int.toNat_natCast]
theorem CG (ns:List Int){p:Int}(hp:0<=p){most:Nat}(h0:0<most)(hm:most<=24):Ok (Qz ns p (most:Int)) λt=>∃ n f,0<n/\n<=most/\GoodF n f/\t=ZD n f:=by
 unfold Qz
 simp only[Rs.okb]
 rw[Xq (sz (by simp))]
 simp only[Rs.okb]
 rw[Xq (sz (by simp))]
 simp only[Rs.okb]
 rw[show BU [(24:Int)] 24= .ok (List.replicate 24 24) from rfl]
 simp only[Rs.okb]
 rw[show Cy [(7:Int),24,6,2] (List.replicate 24 24)= .ok ([(7:Int),24,6,2]++List.replicate 24 24) from Xq (sz (by simp))]
 simp only[Rs.okb]
 refine Ok.bind (Ok.noE (KY ns hp _ (by simp) λx hx=>?_)) λr hr=>?_
 ·rw[List.mem_append] at hx
  rcases hx with h |h
  ·simp only[List.mem_cons,List.not_mem_nil,or_false] at h
   rcases h with rfl |rfl |rfl |rfl<;> decide
  ·rw[(List.mem_replicate.mp h).2];decide
 obtain⟨hl,hv⟩:=hr
 have hl':r.length=28:=by rw[hl];simp
 clear hl hv
 rw[JW (r:=r) (k:=0) (n:=0) rfl (by omega),JW (r:=r) (k:=1) (n:=1) rfl (by omega),JW (r:=r) (k:=2) (n:=2) rfl (by omega),JW (r:=r) (k:=3) (n:=3) rfl (by omega)]
 simp only[Rs.okb,Vg]
 rw[Yc (by omega)]
 simp only[Rs.okb]
 have a0:=Int.emod_nonneg r[1] (show(most:Int)≠0 by omega)
 have a1:=Int.emod_lt_of_pos r[1] (show(0:Int)<(most:Int) by omega)
 obtain⟨s,es⟩:∃s:Int,s=(1:Int)+r[1] % (most:Int):=⟨_,rfl⟩
 rw[←es]
 have hs:0<s/\s<=(most:Int):=by omega
 clear es
 obtain⟨n,rfl⟩:∃n:Nat,s=(n:Int):=⟨s.toNat,by omega⟩
 refine Ok.bind (Ok.noE (Ef (by omega) (by omega))) λt ht=>?_
 obtain⟨f,gd,rfl⟩:=ht
 refine Ok.ite (λ_=>⟨_,rfl,n,f,by omega,by omega,gd,rfl⟩) λ_=>?_
 rw[show GG r (some 4) none=r.drop 4 from Ky r (k:=4) (by omega)]
 refine Ok.bind (Ok.noE (Gr (by omega) (by rw[List.length_drop];omega))) λsp hsp=>?_
 obtain⟨q,q',hq⟩:=hsp
 rw[FW (by omega) gd.lt hq,Yq]
 exact⟨_,rfl,n,_,by omega,by omega,hq.1.good gd,rfl⟩
noncomputable def spB:List Nat->List (List Nat)
 | []=>[[]]
 |c::r=>if c=32 then[]::spB r else match spB r with
  |h::t=>(c::h)::t
  | []=>[[c]]
noncomputable def GU (p:List Nat):List (List Nat)->List (List Nat)
 | []=>[p]
 |h::t=>(p++h)::t
noncomputable def GC:List Nat->Nat->List Nat
 | [],_=>[]
 |c::r,k=>if c=32 then k::GC r (k+1) else GC r (k+1)
theorem Uk:∀l,spB l≠ []
 | []=>by simp[spB]
 |c::r=>by
  unfold spB
  split
  ·simp
  ·split<;> simp
theorem Vp {l:List (List Nat)}(h:l≠ []):GU [] l=l:=by
 cases l with
 |nil=>exact absurd rfl h
 |cons a t=>rfl
theorem Fe (c:Nat)(p:List Nat)(r:List Nat)(h:c≠32):GU (p++[c]) (spB r)=GU p (spB (c::r)):=by
 rw[spB,if_neg h]
 cases e:spB r with
 |nil=>exact absurd e (Uk r)
 |cons a t=>simp[GU]
theorem Jg (l:List Nat):∀(r:List Nat) (k st:Nat),l.drop k=r->st<=k->k<=l.length->(((st::(GC r k).map (· +1)).zip (GC r k++[l.length])).map λp=>(l.drop p.1).take (p.2-p.1))=GU ((l.drop st).take (k-st)) (spB r)
 | [],k,st,e,hs,hk=>by
  have:l.length<=k:=List.drop_eq_nil_iff.mp e
  have e2:k=l.length:=by omega
  simp[GC,spB,GU,e2]
 |c::r,k,st,e,hs,hk=>by
  have hlt:k<l.length:=by
   rcases Nat.lt_or_ge k l.length with h |h
   ·exact h
   ·rw[List.drop_eq_nil_iff.mpr h] at e;cases e
  have e1:l.drop (k+1)=r:=by rw[←List.drop_drop,e];rfl
  have hc:l[k]?=some c:=by
   have:=congrArg (·[0]?) e
   simpa[List.getElem?_drop] using this
  by_cases h:c=32
  ·subst h
   have ih:=Jg l r (k+1) (k+1) e1 (Nat.le_refl _) hlt
   rw[GC,if_pos rfl,spB,if_pos rfl]
   rw[Nat.sub_self,List.take_zero,Vp (Uk r)] at ih
   simp only[List.map_cons,List.cons_append,List.zip_cons_cons,GU,List.append_nil]
   rw[ih]
  ·have ih:=Jg l r (k+1) st e1 (by omega) hlt
   rw[GC,if_neg h,ih, ←Fe c _ r h]
   congr 1
   rw[show k+1-st=(k-st)+1 by omega,List.take_add_one]
   congr 1
   rw[List.getElem?_drop,show st+(k-st)=k by omega,hc]
   rfl
theorem GW (x:Str):∀(r:List Nat) (k:Nat) (st:Array Nat) (fr:Nat),x.cps.toList.drop k=r->k<=x.length->st.size<=k->fr<=k->
  (forIn (List.range' k (x.length+1-k)) (st,fr) (StrLaws.occBody x (" ":Str) x.length (x.length+1))).run.fst.toList=st.toList++GC r k
 | [],k,st,fr,e,hk,h1,h2=>by
  have hl:x.cps.toList.length=x.length:=Array.length_toList
  have:x.cps.toList.length<=k:=List.drop_eq_nil_iff.mp e
  have e2:k=x.length:=by omega
  subst e2
  rw[show x.length+1-x.length=0+1 by omega,List.range'_succ,List.range'_zero,List.forIn_cons]
  unfold StrLaws.occBody
  rw[if_neg (λz=>by have:=z.1.2;have e:(" ":Str).length=1:=rfl;omega)]
  simp[GC]
 |c::r,k,st,fr,e,hk,h1,h2=>by
  have hl:x.cps.toList.length=x.length:=Array.length_toList
  have hlt:k<x.length:=by
   rcases Nat.lt_or_ge k x.cps.toList.length with h |h
   ·omega
   ·rw[List.drop_eq_nil_iff.mpr h] at e;cases e
  have e1:x.cps.toList.drop (k+1)=r:=by rw[←List.drop_drop,e];rfl
  have sa:Builtin.Str.subAt x (" ":Str) k=(c==32):=by
   rw[StrLaws.subAt_eq,e]
   show([c]== [32])=(c==32)
   simp
  rw[show x.length+1-k=(x.length+1-(k+1))+1 by omega,List.range'_succ,List.forIn_cons]
  unfold StrLaws.occBody
  have l1:(" ":Str).length=1:=rfl
  by_cases h:c=32
  ·subst h
   rw[if_pos ⟨⟨⟨by show st.size<_;omega,h2⟩,by omega⟩,by rw[sa];rfl⟩]
   have ih:=GW x r (k+1) (st.push k) (k+(" ":Str).length) e1 hlt (by simp;omega) (by omega)
   rw[GC,if_pos rfl]
   unfold StrLaws.occBody at ih
   refine(Eq.trans ?_ ih).trans (by simp)
   rfl
  ·rw[if_neg (λz=>by rw[sa] at z;exact h (by simpa using z.2))]
   have ih:=GW x r (k+1) st fr e1 hlt (by omega) (by omega)
   rw[GC,if_neg h]
   unfold StrLaws.occBody at ih
   exact ih
theorem Ft (x:Str):Builtin.Str.occurrences x (" ":Str) 0 x.length (x.length+1)=GC x.cps.toList 0:=by
 rw[StrLaws.occ_eq]
 have:=GW x x.cps.toList 0 #[] 0 rfl (Nat.zero_le _) (Nat.zero_le _) (Nat.zero_le _)
 simpa using this
noncomputable def lsS (w:Str):List Nat:=w.cps.toList
theorem UY {a b:Str}(h:lsS a=lsS b):a=b:=Str.ext' (Array.toList_inj.mp h)
theorem Fj (x:Str):(Txt.split x (" ":Str)).map lsS=spB (lsS x):=by
 have hl:(lsS x).length=x.length:=Array.length_toList
 have key:=Jg (lsS x) (lsS x) 0 0 rfl (Nat.le_refl _) (Nat.zero_le _)
 rw[Nat.sub_self,List.take_zero,Vp (Uk _)] at key
 have l1:(" ":Str).length=1:=rfl
 unfold Txt.split
 split
 ·rename_i h
  have h0:x.length=0:=by
   have hk:Builtin.Str.strKind (" ":Str)=1:=by decide+kernel
   have hk2:1<=Builtin.Str.strKind x:=by unfold Builtin.Str.strKind;split;omega;split<;> omega
   rw[hk,l1] at h
   simp only[Bool.or_eq_true,decide_eq_true_eq] at h
   omega
  have e:lsS x=[]:=List.length_eq_zero_iff.mp (hl.trans h0)
  simp[e,spB]
 ·split
  ·rename_i h
   rw[Ft] at h
   have e:GC (lsS x) 0=[]:=by simpa[lsS] using h
   rw[e] at key
   simp at key
   rw[←key]
   simp
  ·rw[Ft,l1, ←key]
   unfold Builtin.Str.partsBetween
   simp only[List.map_map]
   rw[hl]
   refine List.map_congr_left λp _=>?_
   exact StrLaws.strSub_toList x p.1 p.2
noncomputable def jnB (s:List Nat):List (List Nat)->List Nat
 | []=>[]
 | [w]=>w
 |w::v::r=>w++s++jnB s (v::r)
theorem ZW (s:Str):∀ws:List Str,lsS (Txt.join s ws)=jnB (lsS s) (ws.map lsS):=λws=>by
 unfold Txt.join
 rw[StrLaws.glued_eq_join]
 induction ws with
 |nil=>rfl
 |cons w r ih=>
  cases r with
  |nil=>rfl
  |cons v r=>
   show lsS (w++s++Str.join s (v::r))=lsS w++lsS s++jnB (lsS s) (lsS v::r.map lsS)
   rw[show jnB (lsS s) (lsS v::r.map lsS)=jnB (lsS s) ((v::r).map lsS) from rfl, ←ih]
   unfold lsS
   rw[Str.cps_append,Str.cps_append]
   simp
theorem Dv {w:List Nat}(r:List Nat)(h:32∉w):spB (w++r)=GU w (spB r):=by
 induction w with
 |nil=>rw[Vp (Uk r)];rfl
 |cons c w ih=>
  have hc:c≠32:=λe=>h (by simp[e])
  have ih:=ih λz=>h (List.mem_cons_of_mem _ z)
  show spB (c::(w++r))=_
  rw[spB,if_neg hc,ih]
  cases e:spB r with
  |nil=>exact absurd e (Uk r)
  |cons a t=>rfl
theorem Bs:∀{ws:List (List Nat)},ws≠ []->(∀w∈ws,32∉w)->spB (jnB [32] ws)=ws
 | [],h,_=>absurd rfl h
 | [w],_,h=>by
  have:=Dv [] (h w (by simp))
  rw[List.append_nil] at this
  rw[jnB,this];simp[spB,GU]
 |w::v::r,_,h=>by
  rw[jnB,List.append_assoc,Dv _ (h w (by simp))]
  show GU w (spB (32::jnB [32] (v::r)))=_
  rw[spB,if_pos rfl,Bs (by simp) λu hu=>h u (List.mem_cons_of_mem _ hu)]
  simp[GU]
theorem EE {l m:List Str}(h:l.map lsS=m.map lsS):l=m:=by
 induction l generalizing m with
 |nil=>cases m with
  |nil=>rfl
  |cons a m=>simp at h
 |cons a l ih=>cases m with
  |nil=>simp at h
  |cons b m=>
   rw[List.map_cons,List.map_cons] at h
   injection h with h1 h2
   rw[UY h1,ih h2]
theorem Gs {ws:List Str}(hne:ws≠ [])(h:∀w∈ws,32∉lsS w):Txt.split (Txt.join (" ":Str) ws) (" ":Str)=ws:=by
 apply EE
 rw[Fj,ZW]
 show spB (jnB [32] (ws.map lsS))=_
 exact Bs (by simpa using hne) λw hw=>by
  obtain⟨u,hu,rfl⟩:=List.mem_map.mp hw
  exact h u hu
noncomputable def mid {α:Type}(s:α):List (List α)->List α
 | []=>[]
 | [w]=>w
 |w::v::r=>w++s::mid s (v::r)
theorem HF {α:Type}{s:α}{l:List (List α)}(h:l≠ [])(h2:∀r∈l,r≠ []):mid s l≠ []:=by
 cases l with
 |nil=>exact absurd rfl h
 |cons a t=>
  cases t with
  |nil=>exact h2 a (by simp)
  |cons b t=>simp[mid]
theorem Dm {s:List Nat}:∀{a b:List (List Nat)},a≠ []->b≠ []->jnB s (a++b)=jnB s a++s++jnB s b
 | [],_,h,_=>absurd rfl h
 | [w],b,_,h=>by
  cases b with
  |nil=>exact absurd rfl h
  |cons v r=>rfl
 |w::v::r,b,_,h=>by
  show jnB s (w::v::(r++b))=_
  rw[jnB,show v::(r++b)=(v::r)++b from rfl,Dm (by simp) h,jnB]
  simp
theorem BC:∀{rows:List (List (List Nat))},(∀r∈rows,r≠ [])->jnB [32,47,32] (rows.map (jnB [32]))=jnB [32] (mid [47] rows)
 | [],_=>rfl
 | [r],_=>rfl
 |r::q::t,h=>by
  show jnB [32] r++[32,47,32]++jnB [32,47,32] ((q::t).map (jnB [32]))=jnB [32] (r++[47]::mid [47] (q::t))
  have hq:mid [47] (q::t)≠ []:=HF (by simp) λu hu=>h u (List.mem_cons_of_mem _ hu)
  rw[BC λu hu=>h u (List.mem_cons_of_mem _ hu),Dm (h r (by simp)) (by simp),show[47]::mid [47] (q::t)=[[47]]++mid [47] (q::t) from rfl,Dm (a:=[[47]]) (by simp) hq]
  simp[jnB]
theorem DK {α β:Type}(f:α->β)(s:α):∀l:List (List α),(mid s l).map f=mid (f s) (l.map (·.map f))
 | []=>rfl
 | [w]=>rfl
 |w::v::r=>by
  show(w++s::mid s (v::r)).map f=_
  rw[List.map_append,List.map_cons,DK f s (v::r)]
  rfl
theorem CN {rows:List (List Str)}(h:∀r∈rows,r≠ []):Txt.join (" / ":Str) (rows.map (Txt.join (" ":Str)))=Txt.join (" ":Str) (mid ("/":Str) rows):=by
 apply UY
 rw[ZW,ZW,DK]
 show jnB [32,47,32] _=jnB [32] (mid [47] _)
 rw[←BC (λr hr=>by
  obtain⟨u,hu,rfl⟩:=List.mem_map.mp hr
  simpa using h u hu)]
 congr 1
 rw[List.map_map,List.map_map]
 exact List.map_congr_left λr _=>ZW _ _
noncomputable def dg (m:Nat):List Nat:=(Nat.toDigits 10 m).map Char.toNat
theorem Jc (m:Nat):NumText.AllDigits (dg m):=λc hc=>by
 obtain⟨ch,hch,e⟩:=List.mem_map.mp hc
 have r:=PyProof.Rows.digit_range (Nat.isDigit_of_mem_toDigits (by decide) (by decide) hch)
 rw[←e];exact r
theorem Dk (m:Nat):dg m≠ []:=λe=>by
 have h:=toDigits_len_ge 10 m
 rw[List.map_eq_nil_iff.mp e] at h
 exact absurd h (by decide)
theorem Qe (m:Nat):lsS (sI (m:Int))=dg m:=W.KIN.signs_num m
theorem KJ (m:Nat):lsS (sI (-((m+1:Nat):Int)))=45::dg (m+1):=by
 show(Str.ofString (toString (Int.negSucc m))).cps.toList=_
 rw[PyProof.Rows.signs_ofString]
 show("-" ++Nat.repr (m+1)).toList.map Char.toNat=_
 rw[String.toList_append,List.map_append,Nat.toList_repr]
 rfl
theorem Bv:∀(n:Nat) (l:List Nat),l.length=n->NumText.AllDigits l->NumText.digitsVal l<10^n
 |0,l,e,_=>by rw[List.length_eq_zero_iff.mp e];decide
 |n+1,l,e,h=>by
  obtain⟨a,c,rfl⟩:∃a c,l=a++[c]:=⟨l.dropLast,l.getLast (λz=>by rw[z] at e;cases e),(List.dropLast_concat_getLast _).symm⟩
  rw[List.length_append] at e
  have ih:=Bv n a (by simpa using e) λd hd=>h d (List.mem_append_left _ hd)
  have hc:=h c (by simp)
  rw[NumText.digitsVal_snoc,Nat.pow_succ]
  omega
theorem Ux (m:Nat){k:Nat}(hk:0<k):(dg m).length<=k↔m<10^k:=by
 constructor
 ·intro h
  have h1:=Bv _ (dg m) rfl (Jc m)
  rw[show NumText.digitsVal (dg m)=m from W.KIN.val_back m] at h1
  exact Nat.lt_of_lt_of_le h1 (Nat.pow_le_pow_right (by decide) h)
 ·intro h
  have h1:=PyProof.Rows.toString_length_le (v:=(m:Int)) (by omega) hk (by exact_mod_cast h)
  rw[←Qe]
  exact Nat.le_trans (Nat.le_of_eq (show(lsS (sI (m:Int))).length=(sI (m:Int)).length from Array.length_toList)) h1
theorem Jx (w:Str):w.length=(lsS w).length:=(Array.length_toList (xs:=w.cps)).symm
theorem Ce:∀c,c<58->48<=c->Unicode.isDigit c=true:=by decide+kernel
theorem Hh {w:Str}(h:NumText.AllDigits (lsS w))(hne:lsS w≠ []):Txt.isdigit w=true:=by
 unfold Txt.isdigit
 rw[Bool.and_eq_true]
 refine⟨?_,?_⟩
 ·rw[Jx]
  have:0<(lsS w).length:=List.length_pos_iff.mpr hne
  simpa using this
 ·rw[Array.all_eq_true']
  intro c hc
  have:=h c (by unfold lsS;exact Array.mem_def.mp hc)
  exact Ce c (by omega) this.1
theorem Df {w:Str}(h:NumText.AllDigits (lsS w)):Txt.startswith w ("-":Str)=false:=by
 unfold Txt.startswith
 rw[StrLaws.subAt_eq]
 show(_&&((lsS w).drop 0).take 1== [45])=false
 cases e:lsS w with
 |nil=>simp
 |cons c t=>
  have:=h c (by rw[e];simp)
  have:c≠45:=by omega
  simp[this]
theorem Gx {w:Str}{t:List Nat}(h:lsS w=45::t):Txt.startswith w ("-":Str)=true:=by
 unfold Txt.startswith
 rw[StrLaws.subAt_eq,Jx w,h]
 show(_&&((lsS w).drop 0).take 1== [45])=true
 rw[h]
 have:(("-":Str).length)=1:=rfl
 rw[this]
 simp
theorem GQ {w:Str}{c:Nat}{t:List Nat}(h:lsS w=c::t):lsS (Txt.slice w (some 1) none)=t:=by
 have hl:w.length=t.length+1:=by rw[Jx,h];rfl
 have e1:Builtin.Str.strSliceIndices (some 1) none 1 w.length=Builtin.Str.strSliceIndices (some ((1:Nat):Int)) (some ((w.length:Nat):Int)) 1 w.length:=by
  unfold Builtin.Str.strSliceIndices
  have a1:¬(((w.length:Nat):Int)<0):=by omega
  have a2:max (0:Int) (min (w.length:Int) (w.length:Int))=w.length:=by omega
  simp only[a1,if_false,a2,show((1:Int) > 0)=True from by simp,if_true]
  rfl
 have e2:=StrLaws.sliced_plain w (a:=1) (b:=w.length) (by omega) (Nat.le_refl _)
 have e3:=StrLaws.strSliceIndices_plain (a:=1) (b:=w.length) (len:=w.length) (by omega) (Nat.le_refl _)
 unfold Txt.slice
 rw[if_neg (by rw[e1,e3];simp;omega)]
 show(List.filterMap _ _).toArray.toList=_
 rw[e1,e2,List.toList_toArray]
 show(List.drop 1 (lsS w)).take (w.length-1)=t
 rw[h,hl]
 simp
theorem B9 {w:Str}(hl:w.length<=100)(h:∀c∈lsS w,c<100):(reprText w).length<=2000:=by
 have:=StrLaws.reprText_len w λc hc=>Nat.lt_of_lt_of_le (h c hc) (by decide)
 omega
theorem Bm {n:Nat}(h:n<10^60):n.log2<1920:=by
 by_cases h0:n=0
 ·subst h0;decide
 ·exact Nat.lt_of_lt_of_le ((Nat.log2_lt h0).mpr (Nat.lt_of_lt_of_le h (show 10^60<=2^200 by decide))) (by decide)
theorem Dx {n:Int}{c:Nat}(h:c∈lsS (sI n)):c=45∨48<=c/\c<=57:=by
 rcases Int.eq_nat_or_neg n with⟨m,rfl |rfl⟩
 ·rw[Qe] at h;exact .inr (Jc m c h)
 ·cases m with
  |zero=>
   have h:c∈lsS (sI ((0:Nat):Int)):=h
   rw[Qe] at h;exact .inr (Jc 0 c h)
  |succ m=>
   rw[KJ] at h
   rcases List.mem_cons.mp h with e |e
   ·exact .inl e
   ·exact .inr (Jc _ c e)
theorem Hx (n:Int):lsS (sI n)≠ []:=by
 rcases Int.eq_nat_or_neg n with⟨m,rfl |rfl⟩
 ·rw[Qe];exact Dk m
 ·cases m with
  |zero=>exact λe=>Dk 0 ((Qe 0).symm.trans e)
  |succ m=>rw[KJ];simp
theorem Ut {n:Int}(h:n.natAbs<10^60):(sI n).length<=61:=by
 rw[Jx]
 rcases Int.eq_nat_or_neg n with⟨m,rfl |rfl⟩
 ·rw[Qe]
  exact Nat.le_trans ((Ux m (k:=60) (by decide)).mpr (by simpa using h)) (by decide)
 ·cases m with
  |zero=>
   show(lsS (sI ((0:Nat):Int))).length<=61
   rw[Qe];exact Nat.le_trans ((Ux 0 (k:=1) (by decide)).mpr (by decide)) (by decide)
  |succ m=>
   rw[KJ,List.length_cons]
   have e:(-((m+1:Nat):Int)).natAbs=m+1:=by omega
   rw[e] at h
   exact Nat.succ_le_succ ((Ux (m+1) (k:=60) (by decide)).mpr h)
theorem KK {w f:Str}{n:Int}(hw:w.length<=100)(hc:∀c∈lsS w,c<100)(hf:(if Txt.startswith w ("-":Str)=true then Txt.slice w (some 1) none else w)=f)(hd:Txt.isdigit f=true)(hn:intText? w=some n)(hs:sI n=w)(hl:n.natAbs<10^60):
  XE w=if f.length<=18 then .ok n else .err ⟨"NoLine",Pay.non⟩:=by
 have hz:w.length<=sizeLine:=sz (by omega)
 have hfl:f.length<=w.length:=by
  rw[←hf]
  split
  ·exact Txt.slice_le _ _ _
  ·exact Nat.le_refl _
 have hr:=B9 hw hc
 unfold XE
 simp only[Rs.okb]
 have e1:(if Txt.startswith w ("-":Str)=true then(chk (w.length<=sizeLine) (Rs.ok (Txt.slice w (some 1) none))) else Rs.ok w)=Rs.ok f:=by
  rw[Xq hz, ←hf]
  split<;> rfl
 rw[e1]
 simp only[Rs.okb]
 rw[hd,Xq (show f.length<=sizeLine by omega)]
 simp only[Rs.okb,Bool.not_true]
 rw[Et (c:=decide ((18:Int)<(f.length:Int))) λ_=>rfl]
 simp only[Rs.okb,Bool.false_or]
 by_cases h:f.length<=18
 ·rw[if_pos h,if_neg (by simp;omega)]
  have e2:BB w= .ok n:=by
   unfold BB
   rw[hn]
   exact Xq (by omega)
  rw[e2]
  simp only[Rs.okb]
  rw[Xq (Bm hl)]
  simp only[Rs.okb]
  rw[hs]
  simp
 ·rw[if_neg h,if_pos (by simp;omega),Xq hr]
  rfl
theorem Kq {n:Int}(h:n.natAbs<10^60):XE (sI n)=if n.natAbs<10^18 then .ok n else .err ⟨"NoLine",Pay.non⟩:=by
 have hl:=Ut h
 have hc:∀c∈lsS (sI n),c<100:=λc hc=>by rcases Dx hc with z |z<;> omega
 have hz:(sI n).length<=4300:=by omega
 have pos:∀m:Nat,lsS (sI n)=dg m->n=(m:Int)->XE (sI n)=if n.natAbs<10^18 then .ok n else .err ⟨"NoLine",Pay.non⟩:=λm e en=>by
  have ha:NumText.AllDigits (lsS (sI n)):=by rw[e];exact Jc m
  have hne:lsS (sI n)≠ []:=by rw[e];exact Dk m
  have ht:=intText_digits ha hne hz
  rw[show NumText.digitsVal (sI n).cps.toList=m from(congrArg NumText.digitsVal e).trans (W.KIN.val_back m), ←en] at ht
  rw[KK (f:=sI n) (by omega) hc (by rw[Df ha];rfl) (Hh ha hne) ht rfl h]
  have e3:(sI n).length<=18↔n.natAbs<10^18:=by
   rw[Jx,e,Ux m (by decide),en];simp
  by_cases z:(sI n).length<=18
  ·rw[if_pos z,if_pos (e3.mp z)]
  ·rw[if_neg z,if_neg λy=>z (e3.mpr y)]
 rcases Int.eq_nat_or_neg n with⟨m,hm |hm⟩
 ·exact pos m (by rw[hm];exact Qe m) hm
 ·cases m with
  |zero=>exact pos 0 (by rw[hm];exact Qe 0) (by rw[hm];rfl)
  |succ m=>
   have e:lsS (sI n)=45::dg (m+1):=by rw[hm];exact KJ m
   have ht:=intText_neg e (Jc _) (Dk _) hz
   rw[show NumText.digitsVal (dg (m+1))=m+1 from W.KIN.val_back (m+1), ←hm] at ht
   have es:lsS (Txt.slice (sI n) (some 1) none)=dg (m+1):=GQ e
   rw[KK (f:=Txt.slice (sI n) (some 1) none) (by omega) hc (by rw[Gx e];rfl) (Hh (by rw[es];exact Jc _) (by rw[es];exact Dk _)) ht rfl h]
   have e3:(Txt.slice (sI n) (some 1) none).length<=18↔n.natAbs<10^18:=by
    rw[Jx,es,Ux _ (by decide),hm]
    have:(-((m+1:Nat):Int)).natAbs=m+1:=by omega
    rw[this]
   by_cases z:(Txt.slice (sI n) (some 1) none).length<=18
   ·rw[if_pos z,if_pos (e3.mp z)]
   ·rw[if_neg z,if_neg λy=>z (e3.mpr y)]
theorem IK {n:Int}:32∉lsS (sI n):=λh=>by rcases Dx h with z |z<;> omega
theorem Ic (n:Int):sI n≠("/":Str):=λh=>by
 have:47∈lsS (sI n):=by rw[h];exact List.mem_singleton.mpr rfl
 rcases Dx this with z |z<;> omega
theorem K4 {ws:List Str}{B:Nat}(h:∀w∈ws,w.length<=B):(ws.map (·.length)).sum<=ws.length*B:=StrLaws.sumLen_le ws h
theorem KP (s:Str)(ws:List Str):(Txt.join s ws).length<=(ws.map (·.length)).sum+ws.length*s.length:=by
 unfold Txt.join
 rw[StrLaws.glued_eq_join]
 exact StrLaws.join_length_le s ws
theorem Qg {ws:List Str}(h:∀w∈ws,32∉lsS w/\lsS w≠ [])(hl:ws.length<=2000)(hb:∀w∈ws,w.length<=100):Yv (Txt.join (" ":Str) ws)= .ok ws:=by
 unfold Yv
 simp only[Rs.okb]
 cases ws with
 |nil=>
  have e:Txt.join (" ":Str) []=("":Str):=UY (ZW _ _)
  rw[e]
  rfl
 |cons w r=>
  have hj:=KP (" ":Str) (w::r)
  have hs:=K4 (B:=100) hb
  have l1:(" ":Str).length=1:=rfl
  rw[l1] at hj
  have ne:Txt.join (" ":Str) (w::r)≠("":Str):=λe=>by
   have e2:lsS (Txt.join (" ":Str) (w::r))=[]:=by rw[e];rfl
   rw[ZW] at e2
   have hw:=(h w (by simp)).2
   cases r with
   |nil=>exact hw e2
   |cons v r=>
    have e3:lsS w++lsS (" ":Str)++jnB (lsS (" ":Str)) ((v::r).map lsS)=[]:=e2
    rw[List.append_eq_nil_iff,List.append_eq_nil_iff] at e3
    exact hw e3.1.1
  have c1:(Txt.join (" ":Str) (w::r)).length<=sizeLine:=by
   have:sizeLine=2^24:=by decide
   rw[this];omega
  rw[if_pos (by simpa using ne),Gs (by simp) λw hw=>(h w hw).1]
  exact Xq ⟨by rw[l1];rfl,c1,sz (by omega)⟩
theorem Is {ns:List Int}:∀w∈ns.map sI,32∉lsS w/\lsS w≠ []:=λw hw=>by
 obtain⟨n,_,rfl⟩:=List.mem_map.mp hw
 exact⟨IK,Hx n⟩
theorem Vt {ns:List Int}(hl:ns.length<=200)(h:∀n∈ns,n.natAbs<10^60):Zu ns= .ok (Txt.join (" ":Str) (ns.map sI)):=by
 unfold Zu
 simp only[Rs.okb]
 rw[ZB (h:=sI) (sz (by omega)) λa ha=>Xq (Bm (h a ha))]
 simp only[Rs.okb]
 have hs:=K4 (ws:=ns.map sI) (B:=61) λw hw=>by
  obtain⟨n,hn,rfl⟩:=List.mem_map.mp hw
  exact Ut (h n hn)
 have l1:(" ":Str).length=1:=rfl
 rw[List.length_map] at hs
 exact Xq (by rw[l1,List.length_map];omega)
theorem BP {ns:List Int}(hl:ns.length<=200)(h:∀n∈ns,n.natAbs<10^60):XN ns= .ok (Txt.join (" ":Str) (ns.map sI)):=Vt hl h
theorem K2 {α β:Type}{f:α->Rs β}{p:α->Bool}{h:α->β}{x:Exc}:∀{as:List α},(∀a∈as,f a=if p a=true then .ok (h a) else .err x)->UH as f=if as.all p=true then .ok (as.map h) else .err x
 | [],_=>rfl
 |a::as,hf=>by
  have h1:=hf a (by simp)
  have ih:=K2 λb hb=>hf b (List.mem_cons_of_mem _ hb)
  show(f a).bind (λb=>(UH as f).bind λbs=>.ok (b::bs))=_
  rw[h1,List.all_cons]
  cases hp:p a with
  |false=>rfl
  |true=>
   rw[if_pos rfl,Rs.okb,ih,Bool.true_and]
   split<;> rfl
theorem K8 {α β γ:Type}(g:γ->α)(f:α->Rs β):∀as:List γ,UH (as.map g) f=UH as λa=>f (g a)
 | []=>rfl
 |a::as=>by
  show(f (g a)).bind (λb=>(UH (as.map g) f).bind λbs=>.ok (b::bs))=_
  rw[K8 g f as];rfl
noncomputable def Z0 (n:Int):Bool:=decide (n.natAbs<10^18)
theorem Q0 {n:Int}(h:Z0 n=true):n.natAbs<10^60:=Nat.lt_of_lt_of_le (of_decide_eq_true h) (by decide)
theorem CZ {ns:List Int}(h:∀n∈ns,n.natAbs<10^60):∀w∈ns.map sI,w.length<=100:=λw hw=>by
 obtain⟨n,hn,rfl⟩:=List.mem_map.mp hw
 exact Nat.le_trans (Ut (h n hn)) (by decide)
theorem Jo {ns:List Int}(hl:ns.length<=200)(h:∀n∈ns,n.natAbs<10^60):XV (Txt.join (" ":Str) (ns.map sI))=if ns.all Z0=true then .ok ns else .err ⟨"NoLine",Pay.non⟩:=by
 unfold XV
 simp only[Rs.okb]
 rw[Qg Is (by rw[List.length_map];omega) (CZ h),Yq,Rs.okb]
 unfold JK
 rw[Xq (by rw[List.length_map];exact sz (by omega)),K8,K2 (p:=Z0) (h:=λn=>n) λn hn=>?_]
 ·rw[List.map_id']
 ·rw[Kq (h n hn)]
  unfold Z0
  by_cases z:n.natAbs<10^18
  ·rw[if_pos z,if_pos (decide_eq_true z)]
  ·rw[if_neg z,if_neg (by simpa using z)]
theorem CV {ns:List Int}(hl:ns.length<=200)(h:∀n∈ns,n.natAbs<10^60):Qw () (Txt.join (" ":Str) (ns.map sI))= .ok (if ns.all Z0=true then .inr ("yes",ns) else .inl ("no",true)):=by
 unfold Qw
 simp only[Rs.okb]
 rw[Jo hl h]
 split
 ·rfl
 ·show chk (cau XB "NoLine" "PlaitError" =true) _=_
  rw[Xq (by decide+kernel)]
  rfl
theorem EA {α:Type}(g:List α)(a:α):atR (g++[a]) (-(1:Int))= .ok a:=by
 unfold atR atI ixN
 rw[if_neg (by decide),List.length_append,if_pos (by simp;omega)]
 have e:(-(1:Int)+((g.length+ [a].length:Nat):Int)).toNat=g.length:=by simp only[List.length_singleton];omega
 simp only[e]
 simp
theorem CD {α:Type}(g:List α)(a b:α):Qa (g++[a]) (-(1:Int)) b= .ok (g++[b]):=by
 unfold Qa ixN
 rw[if_neg (by decide),List.length_append,if_pos (by simp;omega)]
 have e:(-(1:Int)+((g.length+ [a].length:Nat):Int)).toNat=g.length:=by simp only[List.length_singleton];omega
 simp only[e]
 simp
section
variable {f:List (List Int)->Str->Rs (List (List Int))}(hs:∀g:List (List Int),g.length<=1000->f g ("/":Str)= .ok (g++[[]]))(hn:∀(g:List (List Int)) (acc:List Int) (v:Int),acc.length<=1000->Z0 v=true->f (g++[acc]) (sI v)= .ok (g++[acc++[v]]))
include hn in
theorem V0 (g:List (List Int))(Y3:List Str):∀(r acc:List Int),acc.length+r.length<=1000->(∀v∈r,Z0 v=true)->forN (r.map sI++Y3) (g++[acc]) f=forN Y3 (g++[acc++r]) f
 | [],acc,_,_=>by rw[List.append_nil];rfl
 |v::r,acc,hl,hv=>by
  show(f (g++[acc]) (sI v)).bind (λg'=>forN (r.map sI++Y3) g' f)=_
  rw[List.length_cons] at hl
  rw[hn g acc v (by omega) (hv v (by simp)),Rs.okb,V0 g Y3 r (acc++[v]) (by rw[List.length_append,List.length_singleton];omega) λu hu=>hv u (List.mem_cons_of_mem _ hu)]
  simp
include hs hn in
theorem Us:∀(rows:List (List Int)) (g:List (List Int)),rows≠ []->(∀r∈rows,r.length<=1000/\∀v∈r,Z0 v=true)->g.length+rows.length<=1000->forN (mid ("/":Str) (rows.map (·.map sI))) (g++[[]]) f= .ok (g++rows)
 | [],_,h,_,_=>absurd rfl h
 | [r],g,_,h,_=>by
  have:=V0 hn g [] r [] (by simpa using (h r (by simp)).1) (h r (by simp)).2
  rw[List.append_nil] at this
  exact this
 |r::q::t,g,_,h,hl=>by
  show forN (r.map sI++("/":Str)::mid ("/":Str) ((q::t).map (·.map sI))) (g++[[]]) f=_
  rw[V0 hn g _ r [] (by simpa using (h r (by simp)).1) (h r (by simp)).2]
  simp only[List.length_cons] at hl
  show(f (g++[[]++r]) ("/":Str)).bind (λg'=>forN (mid ("/":Str) ((q::t).map (·.map sI))) g' f)=_
  rw[hs _ (by simp;omega),Rs.okb,Us (q::t) (g++[[]++r]) (by simp) (λu hu=>h u (List.mem_cons_of_mem _ hu)) (by simp;omega)]
  simp
end
noncomputable def Bu (k:Int)(r:List Int):Bool:=r.all λv=>if decide ((0:Int)<=v)=true then decide (v<k) else false
noncomputable def isT (rows:List (List Int)):Bool:=decide (rows.length<=24)&&rows.all λr=>decide ((r.length:Int)=(rows.length:Int))&&Bu rows.length r
theorem JI {r:List Int}{k:Int}(hl:r.length<=1000):X4 r k= .ok (Bu k r):=by
 unfold X4
 simp only[Rs.okb]
 rw[ZB (h:=λv=>if decide ((0:Int)<=v)=true then decide (v<k) else false) (sz (by omega)) λa _=>by split<;> rfl,Rs.okb]
 unfold Bu
 rw[List.all_map]
 rfl
structure RowsOk (rows:List (List Int)):Prop where
 ne:rows≠ []
 len:rows.length<=40
 row:∀r∈rows,r≠ []/\r.length<=40/\∀v∈r,Z0 v=true
theorem Dj {α:Type}(s:α){B:Nat}:∀l:List (List α),(∀r∈l,r.length<=B)->(mid s l).length<=l.length*(B+1)
 | [],_=>by simp[mid]
 | [w],h=>by have:=h w (by simp);simp[mid];omega
 |w::v::r,h=>by
  have h1:=h w (by simp)
  have ih:=Dj s (v::r) λu hu=>h u (List.mem_cons_of_mem _ hu)
  show(w++s::mid s (v::r)).length<=_
  rw[List.length_append,List.length_cons,List.length_cons (a:=w),Nat.succ_mul]
  omega
theorem FD {α:Type}{s x:α}:∀{l:List (List α)},x∈mid s l->x=s∨∃r∈l,x∈r
 | [],h=>by cases h
 | [w],h=>.inr ⟨w,by simp,h⟩
 |w::v::r,h=>by
  rcases List.mem_append.mp (show x∈w++s::mid s (v::r) from h) with h |h
  ·exact .inr ⟨w,by simp,h⟩
  ·rcases List.mem_cons.mp h with h |h
   ·exact .inl h
   ·rcases FD h with h | ⟨q,hq,h⟩
    ·exact .inl h
    ·exact .inr ⟨q,List.mem_cons_of_mem _ hq,h⟩
theorem Up {rows:List (List Int)}(h:RowsOk rows):∀w∈mid ("/":Str) (rows.map (·.map sI)),(32∉lsS w/\lsS w≠ [])/\w.length<=100:=λw hw=>by
 rcases FD hw with e | ⟨r,hr,hw⟩
 ·rw[e]
  have e2:lsS ("/":Str)=[47]:=rfl
  rw[Jx,e2]
  exact⟨⟨by decide,by decide⟩,by decide⟩
 ·obtain⟨q,hq,rfl⟩:=List.mem_map.mp hr
  obtain⟨n,hn,rfl⟩:=List.mem_map.mp hw
  exact⟨⟨IK,Hx n⟩,Nat.le_trans (Ut (Q0 ((h.row q hq).2.2 n hn))) (by decide)⟩
theorem Vs {rows:List (List Int)}(h:RowsOk rows):Yj (Txt.join (" ":Str) (mid ("/":Str) (rows.map (·.map sI))))=if isT rows=true then .ok rows else .err ⟨"NoLine",Pay.non⟩:=by
 have hml:=Dj ("/":Str) (B:=40) (rows.map (·.map sI)) λr hr=>by
  obtain⟨q,hq,rfl⟩:=List.mem_map.mp hr
  rw[List.length_map];exact(h.row q hq).2.1
 rw[List.length_map] at hml
 have hlen:=h.len
 unfold Yj
 simp only[Rs.okb]
 rw[Xq (show([[]]:List (List Int)).length<=sizeLine from sz (by simp)),Rs.okb,Qg (λw hw=>(Up h w hw).1) (by omega) (λw hw=>(Up h w hw).2),Yq]
 simp only[Rs.okb]
 have loop:=Us (f:=λg11 a13=>(Rs.bind (if decide (a13=("/":Str))=true then chk (g11.length<sizeLine) ((λa22=>Rs.ok a22) (g11++[[]])) else Rs.bind (atR g11 (-(1:Int))) λx27=>Rs.bind (XE a13) λx25=>chk (x27.length<sizeLine) (Rs.bind (Qa g11 (-(1:Int)) (x27++[x25])) λa28=>Rs.ok a28)) λg31=>Rs.ok g31)) (λg hg=>by
   simp only[decide_true,if_true]
   rw[Xq (DP (by omega))];rfl) (λg acc v ha hv=>by
   rw[if_neg (by simpa using Ic v),EA,Rs.okb,Kq (Q0 hv),if_pos (of_decide_eq_true hv),Rs.okb,Xq (DP (by omega)),CD];rfl) rows [] h.ne (λr hr=>⟨Nat.le_trans (h.row r hr).2.1 (by decide),(h.row r hr).2.2⟩) (by simp;omega)
 rw[List.nil_append,List.nil_append] at loop
 rw[Iq loop rfl]
 have e2:JK rows (λa40=>JH (Rs.ok (decide ((a40.length:Int)=(rows.length:Int)))) (noE (X4 a40 (rows.length:Int))))= .ok (rows.map λr=>decide ((r.length:Int)=(rows.length:Int))&&Bu rows.length r):=ZB (sz (by omega)) λr hr=>GN λ_=>by rw[JI (Nat.le_trans (h.row r hr).2.1 (by decide)),Yq]
 rw[e2,Rs.okb,Et (c:=!(rows.all λr=>decide ((r.length:Int)=(rows.length:Int))&&Bu rows.length r)) λ_=>by rw[Rs.okb,List.all_map];rfl]
 rw[Rs.okb]
 unfold isT
 by_cases z:rows.length<=24
 ·have z1:decide ((24:Int)<(rows.length:Int))=false:=by simp;omega
  rw[z1,decide_eq_true z,Bool.false_or,Bool.true_and]
  cases(rows.all λr=>decide ((r.length:Int)=(rows.length:Int))&&Bu rows.length r)<;> rfl
 ·have z1:decide ((24:Int)<(rows.length:Int))=true:=by simp;omega
  rw[z1,decide_eq_false z]
  rfl
theorem Ju {α ρ:Type}{f:Unit->α->Rs (Ctl ρ Unit)}{p:α->Bool}{b:ρ}:∀{as:List α},(∀a∈as,f () a= .ok (if p a=true then .nx () else .ret b))->forC as () f= .ok (if as.all p=true then .nx () else .ret b)
 | [],_=>rfl
 |a::as,h=>by
  have h1:=h a (by simp)
  have ih:=Ju λx hx=>h x (List.mem_cons_of_mem _ hx)
  rw[List.all_cons]
  unfold forC
  rw[h1]
  cases hp:p a with
  |false=>rfl
  |true=>
   rw[Bool.true_and, ←ih]
   rfl
theorem Kc {rows:List (List Int)}(h:RowsOk rows):Y2 rows= .ok (isT rows):=by
 have h1:1<=rows.length:=List.length_pos_iff.mpr h.ne
 unfold Y2
 simp only[Rs.okb]
 have e0:decide ((1:Int)<=(rows.length:Int))=true:=by simp;omega
 rw[e0,if_pos rfl,Rs.okb,Rs.okb]
 unfold isT
 by_cases z:rows.length<=24
 ·have z1:decide ((rows.length:Int)<=(24:Int))=true:=by simp;omega
  rw[z1,decide_eq_true z,Bool.true_and,Bool.not_true,if_neg (by decide)]
  rw[Ju (p:=λr=>decide ((r.length:Int)=(rows.length:Int))&&Bu rows.length r) (b:=false) λr hr=>?_]
  ·rw[Rs.okb]
   split
   ·rename_i y;rw[Ck,y]
   ·rename_i y;rw[Fo,eq_false_of_ne_true y]
  ·by_cases y:(r.length:Int)=(rows.length:Int)
   ·rw[decide_eq_true y,Bool.not_true,if_neg (by decide),Bool.true_and]
    rw[Ju (p:=λv=>if decide ((0:Int)<=v)=true then decide (v<(rows.length:Int)) else false) (b:=false) λv hv=>?_]
    ·rw[Rs.okb]
     unfold Bu
     split
     ·rw[GZ]
     ·rw[Gm]
    ·by_cases q:(0:Int)<=v
     ·rw[decide_eq_true q,if_pos rfl,if_pos rfl,Rs.okb,Rs.okb]
      cases decide (v<(rows.length:Int))<;> rfl
     ·rw[decide_eq_false q]
      rfl
   ·rw[decide_eq_false y]
    rfl
 ·have z1:decide ((rows.length:Int)<=(24:Int))=false:=by simp;omega
  rw[z1,decide_eq_false z]
  rfl
theorem QJ (l:List Int):X3 l= .ok true:=by
 unfold X3
 simp only[Rs.okb]
 rw[if_neg (by decide),Kz (λa _=>rfl)]
 rfl
theorem BQ {rows:List (List Int)}(h:RowsOk rows):Va () (Txt.join (" ":Str) (mid ("/":Str) (rows.map (·.map sI))))= .ok (if isT rows=true then .inr ("yes",rows) else .inl ("no",true)):=by
 unfold Va
 simp only[Rs.okb]
 rw[Vs h]
 split
 ·rfl
 ·show chk (cau XB "NoLine" "PlaitError" =true) _=_
  rw[Xq (by decide+kernel)]
  rfl
theorem UC {rows:List (List Int)}(h:RowsOk rows):Txt.join (" / ":Str) (rows.map λr=>Txt.join (" ":Str) (r.map sI))=Txt.join (" ":Str) (mid ("/":Str) (rows.map (·.map sI))):=by
 rw[←CN (λr hr=>by
  obtain⟨q,hq,rfl⟩:=List.mem_map.mp hr
  simpa using (h.row q hq).1),List.map_map]
 rfl
theorem KH {rows:List (List Int)}(h:RowsOk rows):((rows.map λr=>Txt.join (" ":Str) (r.map sI)).map (·.length)).sum+(rows.map λr=>Txt.join (" ":Str) (r.map sI)).length*(" / ":Str).length<=16777216:=by
 have hs:=K4 (ws:=rows.map λr=>Txt.join (" ":Str) (r.map sI)) (B:=4000) λw hw=>by
  obtain⟨r,hr,rfl⟩:=List.mem_map.mp hw
  have h1:=KP (" ":Str) (r.map sI)
  have h2:=K4 (ws:=r.map sI) (B:=61) λw hw=>by
   obtain⟨n,hn,rfl⟩:=List.mem_map.mp hw
   exact Ut (Q0 ((h.row r hr).2.2 n hn))
  have h3:=(h.row r hr).2.1
  have l1:(" ":Str).length=1:=rfl
  rw[List.length_map] at h1 h2
  rw[l1] at h1
  omega
 have hl:=h.len
 have l3:(" / ":Str).length=3:=rfl
 rw[l3]
 rw[List.length_map] at hs⊢
 omega
theorem Jy {rows:List (List Int)}(h:RowsOk rows):Yw rows= .ok true:=by
 have hlen:=h.len
 have hw:∀r∈rows,Zu r= .ok (Txt.join (" ":Str) (r.map sI)):=λr hr=>Vt (Nat.le_trans (h.row r hr).2.1 (by decide)) λn hn=>Q0 ((h.row r hr).2.2 n hn)
 have e1:JK rows (λa=>noE (Zu a))= .ok (rows.map λr=>Txt.join (" ":Str) (r.map sI)):=ZB (sz (by omega)) λr hr=>by rw[hw r hr,Yq]
 have e2:JK rows (λa=>noE (XN a))= .ok (rows.map λr=>Txt.join (" ":Str) (r.map sI)):=e1
 have e3:Yu rows= .ok (Txt.join (" / ":Str) (rows.map λr=>Txt.join (" ":Str) (r.map sI))):=by
  unfold Yu
  simp only[Rs.okb]
  rw[e2,Rs.okb,Xq (KH h)]
 unfold Yw
 simp only[Rs.okb]
 rw[e1,Rs.okb,Xq (KH h),Rs.okb,UC h,BQ h,Yq,Rs.okb,Kc h,Yq,Rs.okb,Rs.okb]
 cases z:isT rows with
 |false=>rw[Bool.not_false,if_pos rfl];simp
 |true=>
  rw[Bool.not_true,if_neg (by decide),ZB (h:=λr=>r) (sz (by omega)) λ_ _=>rfl,List.map_id',Rs.okb,e3,Yq,UC h,Rs.okb]
  simp only[decide_true,Bool.not_true,if_true]
  rw[show orR (Rs.ok false) (orR (Rs.ok false) (Rs.ok false))=Rs.ok false from rfl,Rs.okb,if_neg (by decide),if_neg (by decide)]
  show Rs.bind (Rs.ok (("yes":Str),rows)) _=_
  rw[Rs.okb,Xq ⟨List.all_eq_true.mpr λr _=>by rw[QJ];rfl,λr hr=>DP (Nat.le_trans (h.row r hr).2.1 (by decide))⟩]
  rw[ZB (h:=λr=>r++[0]) (sz (by omega)) λr hr=>by
   rw[Xq (sz (by simp)),Rs.okb]
   have:=(h.row r hr).2.1
   exact Xq (sz (by simp;omega)),Rs.okb]
  simp
theorem VU {ns:List Int}(hl:ns.length<=200)(h:∀n∈ns,n.natAbs<10^60):Ym ns= .ok true:=by
 unfold Ym
 simp only[Rs.okb]
 rw[BP hl h,Yq,Rs.okb,Vt hl h,Yq,Rs.okb]
 simp only[decide_true,Bool.not_true]
 rw[show orR (Rs.ok false) (Rs.ok false)=Rs.ok false from rfl,Rs.okb,if_neg (by decide),CV hl h,Yq,Rs.okb,if_neg (by decide)]
 rw[B3 (p:=λn=>decide ((10:Int)^18<=(n.natAbs:Int))) (h:=λn=>n) (sz (by omega)) (λa _=>by rw[J9 (by decide) (by decide) (by decide) (by decide),Rs.okb];rfl) (λ_ _ _=>rfl),List.map_id',Rs.okb,Rs.okb,Rs.okb]
 cases z:ns.all Z0 with
 |false=>
  have:∃n∈ns,Z0 n=false:=by simpa using z
  obtain⟨n,hn,hz⟩:=this
  have hm:n∈ns.filter λn=>decide ((10:Int)^18<=(n.natAbs:Int)):=List.mem_filter.mpr ⟨hn,by
   unfold Z0 at hz
   have:=of_decide_eq_false hz
   exact decide_eq_true (by omega)⟩
  have:0<(ns.filter λn=>decide ((10:Int)^18<=(n.natAbs:Int))).length:=List.length_pos_of_mem hm
  rw[if_pos (by simp only[decide_eq_true_eq];omega)]
  simp
 |true=>
  have hf:ns.filter (λn=>decide ((10:Int)^18<=(n.natAbs:Int)))=[]:=by
   rw[List.filter_eq_nil_iff]
   intro n hn
   have:=of_decide_eq_true (List.all_eq_true.mp z n hn)
   simp only[decide_eq_true_eq]
   omega
  rw[hf,if_neg (by decide)]
  simp only[if_true,decide_true,Bool.not_true]
  have e:getR (Sum.inr (("yes":Str),ns):(Str×Bool) ⊕ (Str×List Int))= .ok (("yes":Str),ns):=rfl
  rw[e,Rs.okb,Rs.okb,QJ,Yq,Rs.okb,show orR (Rs.ok false) (Rs.ok (!true))=Rs.ok false from rfl,Rs.okb,if_neg (by decide),Rs.okb,Xq (DP (show ns.length<=100000 by omega))]
structure Sq (k:Nat)(rows:List (List Int)):Prop where
 len:rows.length=k
 row:∀r∈rows,r.length=k/\∀v∈r,0<=v/\v<(k:Int)
theorem ZV {v:Int}(h0: -1000<=v)(h1:v<=1000):Z0 v=true:=decide_eq_true (Nat.lt_of_le_of_lt (show v.natAbs<=1000 by omega) (by decide))
theorem Sq.ok {k:Nat}{rows:List (List Int)}(h:Sq k rows)(h0:0<k)(h1:k<=30):RowsOk rows where
 ne:=λe=>by have:=h.len;rw[e] at this;simp at this;omega
 len:=by rw[h.len];omega
 row:=λr hr=>by
  have hl:=(h.row r hr).1
  refine⟨λe=>by rw[e] at hl;simp at hl;omega,by omega,λv hv=>?_⟩
  have:=(h.row r hr).2 v hv
  exact ZV (by omega) (by omega)
theorem E4 {n:Nat}{f:Nat->Nat->Nat}(F:GoodF n f):Sq n (ZD n f) where
 len:=Yl n f
 row:=λr hr=>by
  obtain⟨a,ha,rfl⟩:=List.mem_map.mp hr
  refine⟨YS n f a,λv hv=>?_⟩
  obtain⟨b,hb,rfl⟩:=List.mem_map.mp hv
  have:=F.lt a b (List.mem_range.mp ha) (List.mem_range.mp hb)
  exact⟨by omega,by omega⟩
theorem Hm {k:Nat}(h0:0<k)(h1:k<=30){s:List Int}(hs:s.length=12):Ok (Gu (k:Int) s) λt=>Sq k t:=by
 unfold Gu
 simp only[Rs.okb]
 rw[JS (by omega),Rs.okb]
 refine Ok.bind (R:=λt=>Sq k t) ((Ok.forN (λi g=>g.length=i/\∀r∈g,r.length=k/\∀v∈r,0<=v/\v<(k:Int)) ⟨rfl,λr hr=>by cases hr⟩ λi a g ha hg=>?_).imp λg hg=>⟨by rw[hg.1,Y9],hg.2⟩) λg hg=>⟨g,rfl,hg⟩
 obtain⟨rfl,hi⟩:=Y7 ha
 rw[Rs.okb]
 refine Ok.bind (R:=λr=>r.length=k/\∀v∈r,0<=v/\v<(k:Int)) ((Ok.forN (λj (r:List Int)=>r.length=j/\∀v∈r,0<=v/\v<(k:Int)) ⟨rfl,λr hr=>by cases hr⟩ λj b r hb hr=>?_).imp λr hr=>⟨by rw[hr.1,Y9],hr.2⟩) λr hr=>?_
 ·obtain⟨rfl,hj⟩:=Y7 hb
  rw[ZM (by decide) (by decide),Rs.okb,Rs.okb,Yc (by decide),Rs.okb]
  have a0:=Int.emod_nonneg ((i:Int)+3*(j:Int)) (show(12:Int)≠0 by decide)
  have a1:=Int.emod_lt_of_pos ((i:Int)+3*(j:Int)) (show(0:Int)<12 by decide)
  obtain⟨q,eq⟩:∃q:Nat,((i:Int)+3*(j:Int)) % 12=(q:Int):=⟨_,(Int.toNat_of_nonneg a0).symm⟩
  rw[eq] at a1⊢
  rw[JW (r:=s) rfl (by omega),Rs.okb,ZM (by omega) (by omega),Rs.okb,Rs.okb,Yc (by omega),Rs.okb,Xq (DP (by have:=hr.1;omega))]
  refine⟨_,rfl,by rw[List.length_append,hr.1];rfl,λv hv=>?_⟩
  rcases List.mem_append.mp hv with z |z
  ·exact hr.2 v z
  ·rw[List.mem_singleton.mp z]
   exact⟨Int.emod_nonneg _ (by omega),Int.emod_lt_of_pos _ (by omega)⟩
 ·rw[Xq (DP (by have:=hg.1;omega))]
  refine⟨_,rfl,by rw[List.length_append,hg.1];rfl,λq hq=>?_⟩
  rcases List.mem_append.mp hq with z |z
  ·exact hg.2 q z
  ·rw[List.mem_singleton.mp z];exact hr
theorem KB {k kk:Nat}{rows:List (List Int)}(h:Sq k rows)(h1:k<=30){r:List Int}(hn:0<k)(hr:r≠ []/\r.length<=40/\∀v∈r,Z0 v=true):RowsOk (rows.set kk r) where
 ne:=λe=>by have:=congrArg List.length e;rw[List.length_set,h.len] at this;simp at this;omega
 len:=by rw[List.length_set,h.len];omega
 row:=λq hq=>by
  rcases List.mem_or_eq_of_mem_set hq with z |z
  ·exact(h.ok hn h1).row q z
  ·rw[z];exact hr
theorem Uc {k:Nat}{rows:List (List Int)}(h:Sq k rows)(h0:0<k)(h1:k<=30){m0 m1 m2 m3:Int}(b3:0<=m3/\m3<3):Ok (YI rows [m0,m1,m2,m3]) RowsOk:=by
 unfold YI
 simp only[Rs.okb]
 have hl:=h.len
 rw[ZB (h:=λr=>r) (sz (by omega)) λ_ _=>rfl,List.map_id',Rs.okb]
 rw[show atR [m0,m1,m2,m3] 0= .ok m0 from rfl,show atR [m0,m1,m2,m3] 1= .ok m1 from rfl,show atR [m0,m1,m2,m3] 2= .ok m2 from rfl,show atR [m0,m1,m2,m3] 3= .ok m3 from rfl]
 simp only[Rs.okb]
 rw[hl]
 rw[Yc (b:=(k:Int)) (by omega),Rs.okb]
 have a0:=Int.emod_nonneg m1 (show(k:Int)≠0 by omega)
 have a1:=Int.emod_lt_of_pos m1 (show(0:Int)<(k:Int) by omega)
 have c0:=Int.emod_nonneg m2 (show(k:Int)≠0 by omega)
 have c1:=Int.emod_lt_of_pos m2 (show(0:Int)<(k:Int) by omega)
 have ek:alR rows (m1 % (k:Int))= .ok (m1 % (k:Int)).toNat:=by
  unfold alR ixN
  rw[if_pos a0,if_pos (by omega)]
 rw[ek,Rs.okb]
 generalize hkk:(m1 % (k:Int)).toNat=kk
 have hk:kk<rows.length:=by omega
 have er:GE rows kk= .ok rows[kk]:=by
  unfold GE
  rw[List.getElem?_eq_getElem hk]
 have hrow:=h.row rows[kk] (List.getElem_mem hk)
 have es:∀v,Qa rows[kk] (m2 % (k:Int)) v= .ok (rows[kk].set (m2 % (k:Int)).toNat v):=λv=>by
  unfold Qa ixN
  rw[if_pos c0,if_pos (by omega)]
 have sok:∀v,Z0 v=true->(rows[kk].set (m2 % (k:Int)).toNat v)≠ []/\(rows[kk].set (m2 % (k:Int)).toNat v).length<=40/\∀u∈rows[kk].set (m2 % (k:Int)).toNat v,Z0 u=true:=λv hv=>by
  refine⟨λe=>?_,by rw[List.length_set];omega,λu hu=>?_⟩
  ·have e2:=congrArg List.length e;rw[List.length_set,hrow.1] at e2;have:k=0:=e2;omega
  ·rcases List.mem_or_eq_of_mem_set hu with z |z
   ·have:=hrow.2 u z;exact ZV (by omega) (by omega)
   ·rw[z];exact hv
 have fin:∀{g:List (List Int)},RowsOk g->Ok (Rs.ok g) RowsOk:=λh=>⟨_,rfl,h⟩
 by_cases z0:m0=0
 ·subst z0
  simp only[decide_true,if_true,Rs.okb,Yc (show(0:Int)<(k:Int) by omega),er,es]
  exact fin (KB h h1 h0 (sok _ (ZV (by omega) (by omega))))
 by_cases z1:m0=1
 ·subst z1
  simp only[show decide ((1:Int)=0)=false from rfl,if_false,Bool.false_eq_true,decide_true,if_true,Rs.okb,er]
  rw[Xq (DP (by omega))]
  simp only[Rs.okb]
  exact fin (KB h h1 h0 ⟨by simp,by simp;omega,λu hu=>by
   rcases List.mem_append.mp hu with z |z
   ·have:=hrow.2 u z;exact ZV (by omega) (by omega)
   ·rw[List.mem_singleton.mp z];decide⟩)
 by_cases z2:m0=2
 ·subst z2
  simp only[show decide ((2:Int)=0)=false from rfl,show decide ((2:Int)=1)=false from rfl,if_false,Bool.false_eq_true,decide_true,if_true,Rs.okb,Yc (show(0:Int)<(k:Int) by omega),er,es]
  exact fin (KB h h1 h0 (sok _ (ZV (by omega) (by omega))))
 rw[decide_eq_false z0,decide_eq_false z1,decide_eq_false z2]
 simp only[if_false,Bool.false_eq_true,Rs.okb]
 rw[GN (c:=decide ((1:Int)<(k:Int))) λ_=>rfl,Rs.okb]
 by_cases z3:(decide (m0=3)&&decide ((1:Int)<(k:Int)))=true
 ·rw[if_pos z3,er,Rs.okb]
  rw[Bool.and_eq_true,decide_eq_true_eq,decide_eq_true_eq] at z3
  rw[Xq (by omega),Rs.okb]
  exact fin (KB h h1 h0 ⟨λe=>by have:=congrArg List.length e;simp at this;omega,by simp;omega,λu hu=>by
   have:=hrow.2 u ((List.dropLast_sublist _).subset hu);exact ZV (by omega) (by omega)⟩)
 ·rw[if_neg z3,Rs.okb]
  exact fin (h.ok h0 h1)
theorem Gy {r:List Int}(hl:r.length=61)(hv:∀(i:Nat) x s,r[i]?=some x->(([21]++(List.replicate 20 [(4:Int),2,10^59]).flatten):List Int)[i]?=some s->0<=x/\x<s):
  ∀k:Nat,k<20->((0:Int)<=r[3*k+1]!/\r[3*k+1]!<4)/\((0:Int)<=r[3*k+2]!/\r[3*k+2]!<2)/\((0:Int)<=r[3*k+3]!/\r[3*k+3]!<10^59):=λk hk=>by
 have g:∀i,i<61->∀(s:Int),(([21]++(List.replicate 20 [(4:Int),2,10^59]).flatten):List Int)[i]?=some s->(0:Int)<=r[i]!/\r[i]!<s:=λi hi s hs=>by
  have e:r[i]?=some r[i]!:=by rw[getElem!_pos r i (by omega)];exact List.getElem?_eq_getElem (by omega)
  exact hv i _ s e hs
 have t:∀k,k<20->(([21]++(List.replicate 20 [(4:Int),2,10^59]).flatten):List Int)[3*k+1]?=some 4/\(([21]++(List.replicate 20 [(4:Int),2,10^59]).flatten):List Int)[3*k+2]?=some 2/\(([21]++(List.replicate 20 [(4:Int),2,10^59]).flatten):List Int)[3*k+3]?=some (10^59):=by decide+kernel
 obtain⟨t1,t2,t3⟩:=t k hk
 exact⟨g _ (by omega) _ t1,g _ (by omega) _ t2,g _ (by omega) _ t3⟩
theorem Bc {r:List Int}{k:Int}{n:Nat}(e:k=(n:Int))(h:n<r.length):atR r k= .ok r[n]!:=by
 rw[JW e h,getElem!_pos r n h]
theorem EC {x:Int}(h0:0<=x)(h1:x<4):∃b:Int,atR [(10:Int),10^6,10^18,10^59] x= .ok b/\0<b/\b<=10^59:=by
 obtain⟨n,rfl⟩:=Int.eq_ofNat_of_zero_le h0
 have hn:n<4:=by omega
 have t:∀n,n<4->(0:Int)<([(10:Int),10^6,10^18,10^59]:List Int)[n]!/\([(10:Int),10^6,10^18,10^59]:List Int)[n]!<=10^59:=by decide+kernel
 exact⟨_,Bc rfl (by simpa using hn),t n hn⟩
theorem CT (ns:List Int)(_:ns.length<=63):U6 ns= .ok true:=by
 refine Ok.eq ?_
 unfold U6
 simp only[Rs.okb]
 have p6:GJ 10 6= .ok (10^6):=J9 (by decide) (by decide) (by decide) (by decide)
 have p18:GJ 10 18= .ok (10^18):=J9 (by decide) (by decide) (by decide) (by decide)
 have p59:GJ 10 59= .ok (10^59):=J9 (by decide) (by decide) (by decide) (by decide)
 rw[p59,p18,p6]
 simp only[Rs.okb]
 rw[Xq (show([2,8,7]:List Int).length<=sizeLine from sz (by simp)),Xq (show([24]:List Int).length<=sizeLine from sz (by simp)),Xq (show([6,24,24,3]:List Int).length<=sizeLine from sz (by simp)),Xq (show([21]:List Int).length<=sizeLine from sz (by simp)),Xq (show([4,2,10^59]:List Int).length<=sizeLine from sz (by simp)),Xq (show([10,10^6,10^18,10^59]:List Int).length<=sizeLine from sz (by simp))]
 simp only[Rs.okb]
 rw[show BU [(24:Int)] 12= .ok (List.replicate 12 24) from rfl,show BU [(4:Int),2,10^59] 20= .ok (List.replicate 20 [(4:Int),2,10^59]).flatten from rfl]
 simp only[Rs.okb]
 rw[show Cy [(2:Int),8,7] (List.replicate 12 24)= .ok ([(2:Int),8,7]++List.replicate 12 24) from Xq (sz (by simp)),show Cy [(21:Int)] (List.replicate 20 [(4:Int),2,10^59]).flatten= .ok ([(21:Int)]++(List.replicate 20 [(4:Int),2,10^59]).flatten) from Xq (sz (by simp))]
 simp only[Rs.okb]
 refine Ok.bind (Ok.noE (KY ns (by decide) _ (by simp) λx hx=>?_)) λa1 ha1=>?_
 ·simp only[List.mem_append,List.mem_cons,List.not_mem_nil,or_false,List.mem_replicate] at hx
  rcases hx with(rfl |rfl |rfl) | ⟨_,rfl⟩<;> decide
 have la:a1.length=15:=by rw[ha1.1];simp
 have v2:=ha1.2 2 a1[2]! 7 (by rw[getElem!_pos a1 2 (by omega)];exact List.getElem?_eq_getElem (by omega)) rfl
 refine Ok.bind (Ok.noE (CG ns (by decide) (most:=12) (by decide) (by decide))) λt r9=>?_
 obtain⟨n,f,n0,n1,F,et⟩:=r9
 subst et
 have st:=E4 F
 rw[st.len,Bc (r:=a1) (k:=0) (n:=0) rfl (by omega),Bc (r:=a1) (k:=1) (n:=1) rfl (by omega),Bc (r:=a1) (k:=2) (n:=2) rfl (by omega)]
 simp only[Rs.okb]
 refine Ok.bind (R:=λs=>∃ k:Nat,s=(k:Int)/\0<k/\k<=26) (Ok.ite (λ_=>?_) λ_=>⟨_,rfl,n,rfl,n0,by omega⟩) λs ⟨k,es,k0,k1⟩=>?_
 ·exact⟨_,rfl,(20+a1[2]!).toNat,by omega,by omega,by omega⟩
 subst es
 rw[Et (c:=decide ((a1[1]!)=7)) λ_=>rfl,Rs.okb]
 refine Ok.bind (R:=λg=>∃ q:Nat,0<q/\q<=30/\Sq q g) (Ok.ite (λ_=>?_) λ_=>⟨_,rfl,n,n0,by omega,st⟩) λg ⟨q,q0,q1,sg⟩=>?_
 ·rw[show GG a1 (some 3) none=a1.drop 3 from Ky a1 (k:=3) (by omega)]
  exact Ok.bind (Ok.noE (Hm k0 (by omega) (s:=a1.drop 3) (by simp;omega))) λt ht=>⟨t,rfl,k,k0,by omega,ht⟩
 refine Ok.bind (Ok.noE (KY ns (by decide) [6,24,24,3] (by simp) λx hx=>?_)) λa2 ha2=>?_
 ·simp only[List.mem_cons,List.not_mem_nil,or_false] at hx
  rcases hx with rfl |rfl |rfl |rfl<;> decide
 obtain⟨m0,m1,m2,m3,ea2⟩:∃m0 m1 m2 m3,a2=[m0,m1,m2,m3]:=by
  have l:=ha2.1
  match a2,l with
  | [m0,m1,m2,m3],_=>exact⟨m0,m1,m2,m3,rfl⟩
 have b3:=ha2.2 3 m3 3 (by rw[ea2];rfl) rfl
 refine Ok.bind (Ok.noE (KY ns (by decide) _ (by simp) λx hx=>?_)) λa3 ha3=>?_
 ·rcases List.mem_append.mp hx with z |z
  ·rw[List.mem_singleton.mp z];decide
  ·obtain⟨l,h1,h2⟩:=List.mem_flatten.mp z
   rw[(List.mem_replicate.mp h1).2] at h2
   simp only[List.mem_cons,List.not_mem_nil,or_false] at h2
   rcases h2 with rfl |rfl |rfl<;> decide
 have l3:a3.length=61:=by rw[ha3.1];simp
 have hb:=Gy l3 ha3.2
 have v0:=ha3.2 0 a3[0]! 21 (by rw[getElem!_pos a3 0 (by omega)];exact List.getElem?_eq_getElem (by omega)) rfl
 obtain⟨c,ec⟩:=Int.eq_ofNat_of_zero_le v0.1
 rw[Bc (r:=a3) (k:=0) (n:=0) rfl (by omega),Rs.okb,ec,JS (by omega),Rs.okb]
 have hc:c<=20:=by omega
 refine Ok.bind (R:=λg=>g.length<=200/\∀n∈g,n.natAbs<10^60) ((Ok.forN (λi (g:List Int)=>g.length=i/\∀n∈g,n.natAbs<10^60) ⟨rfl,λr hr=>by cases hr⟩ λi a g ha hg=>?_).imp λg hg=>⟨by rw[hg.1,Y9];omega,hg.2⟩) λg2 hg2=>?_
 ·obtain⟨rfl,hi⟩:=Y7 ha
  obtain⟨w1,w2,w3⟩:=hb i (by omega)
  simp only[ZM (show-(2^64)<(3:Int) by decide) (show(3:Int)<2^64 by decide),Rs.okb]
  rw[Bc (r:=a3) (n:=3*i+3) (by omega) (by omega),Bc (r:=a3) (n:=3*i+1) (by omega) (by omega),Bc (r:=a3) (n:=3*i+2) (by omega) (by omega)]
  simp only[Rs.okb]
  obtain⟨b,eb,b0,b1⟩:=EC w1.1 w1.2
  rw[eb,Rs.okb,Yc b0,Rs.okb,ZM (show-(2^64)<(2:Int) by decide) (show(2:Int)<2^64 by decide),Rs.okb,Rs.okb,QA (by omega) (by omega),Rs.okb,Xq (DP (by have:=hg.1;omega))]
  refine⟨_,rfl,by rw[List.length_append,hg.1];rfl,λv hv=>?_⟩
  rcases List.mem_append.mp hv with z |z
  ·exact hg.2 v z
  ·rw[List.mem_singleton.mp z]
   have y0:=Int.emod_nonneg a3[3*i+3]! (show b≠0 by omega)
   have y1:=Int.emod_lt_of_pos a3[3*i+3]! b0
   have hs:2*a3[3*i+2]!-1=1∨2*a3[3*i+2]!-1= -1:=by omega
   have hp:(10:Nat)^59<10^60:=by decide
   have hq:((10:Int)^59)=((10^59:Nat):Int):=by decide
   rcases hs with e |e<;> rw[e]<;> omega
 ·rw[Jy (sg.ok q0 q1),VU hg2.1 hg2.2,Yq]
  refine Ok.bind (R:=λb=>b=false) ⟨false,rfl,rfl⟩ λb eb=>?_
  subst eb
  rw[if_neg (by decide)]
  refine Ok.bind (R:=λb=>b=false) ?_ λb eb=>?_
  ·rw[ea2]
   refine Ok.bind (Ok.bind (Ok.noE (Uc sg q0 q1 b3)) (T:=λb=>b=true) λt ht=>?_) λb eb=>?_
   ·rw[Jy ht];exact⟨true,rfl,rfl⟩
   ·rw[eb];exact⟨false,rfl,rfl⟩
  ·subst eb
   rw[if_neg (by decide)]
   exact⟨true,rfl,rfl⟩
noncomputable def top (i:Nat):Stmt:=PySem.Challenge.pw_plait_k92_tables_and_colours.main.body.getD i (.Pass ⟨0,0,0,0⟩)
noncomputable abbrev YY:Stmt:=top 7
noncomputable abbrev Zp:Stmt:=top 10
noncomputable abbrev YO:Stmt:=top 11
noncomputable abbrev QD:Stmt:=top 12
noncomputable abbrev ZF:Stmt:=top 13
noncomputable abbrev Zr:Stmt:=top 14
noncomputable abbrev YN:Stmt:=top 15
noncomputable abbrev GO:Stmt:=top 17
noncomputable abbrev Ed:Stmt:=top 18
noncomputable abbrev El:Stmt:=top 19
noncomputable abbrev Jw:Stmt:=top 20
noncomputable abbrev Vr:Stmt:=top 21
noncomputable abbrev Ko:Stmt:=top 22
noncomputable abbrev Jh:Stmt:=top 23
noncomputable abbrev QX:Stmt:=top 24
noncomputable abbrev Kl:Stmt:=top 25
noncomputable abbrev Qy:Stmt:=top 26
noncomputable abbrev Z7:Stmt:=top 27
noncomputable abbrev Vw:Stmt:=top 28
noncomputable abbrev Dt:Stmt:=top 29
noncomputable abbrev Qx:Stmt:=top 30
noncomputable abbrev Y4:Stmt:=top 31
noncomputable abbrev Zk:Stmt:=top 32
noncomputable abbrev B6:Stmt:=top 33
noncomputable abbrev ZE:Stmt:=top 34
noncomputable abbrev Vq:Stmt:=top 35
noncomputable abbrev U8:Stmt:=top 29
theorem U0 {X:Cx}:PE X (.List [.List [.Constant (.int 0) 0 ⟨91,17,91,18⟩, .Constant (.int 3) 0 ⟨91,20,91,21⟩, .Constant (.int 1) 0 ⟨91,23,91,24⟩, .Constant (.int 2) 0 ⟨91,26,91,27⟩] ⟨91,16,91,28⟩, .List [.Constant (.int 2) 0 ⟨91,31,91,32⟩, .Constant (.int 1) 0 ⟨91,34,91,35⟩, .Constant (.int 3) 0 ⟨91,37,91,38⟩, .Constant (.int 0) 0 ⟨91,40,91,41⟩] ⟨91,30,91,42⟩, .List [.Constant (.int 3) 0 ⟨91,45,91,46⟩, .Constant (.int 0) 0 ⟨91,48,91,49⟩, .Constant (.int 2) 0 ⟨91,51,91,52⟩, .Constant (.int 1) 0 ⟨91,54,91,55⟩] ⟨91,44,91,56⟩, .List [.Constant (.int 1) 0 ⟨91,59,91,60⟩, .Constant (.int 2) 0 ⟨91,62,91,63⟩, .Constant (.int 0) 0 ⟨91,65,91,66⟩, .Constant (.int 3) 0 ⟨91,68,91,69⟩] ⟨91,58,91,70⟩] ⟨91,15,91,71⟩) (CL (XA (CL (XA (tC (.int 0)) (XA (tC (.int 3)) (XA (tC (.int 1)) (XA (tC (.int 2)) Zy))))) (XA (CL (XA (tC (.int 2)) (XA (tC (.int 1)) (XA (tC (.int 3)) (XA (tC (.int 0)) Zy))))) (XA (CL (XA (tC (.int 3)) (XA (tC (.int 0)) (XA (tC (.int 2)) (XA (tC (.int 1)) Zy))))) (XA (CL (XA (tC (.int 1)) (XA (tC (.int 2)) (XA (tC (.int 0)) (XA (tC (.int 3)) Zy))))) Zy))))):=by
 refine Ye ?_
 refine VS ?_ ?_
 ·exact Ye (Xc Xg (Xc Xg (Xc Xg (Xc Xg Xh))))
 refine VS ?_ ?_
 ·exact Ye (Xc Xg (Xc Xg (Xc Xg (Xc Xg Xh))))
 refine VS ?_ ?_
 ·exact Ye (Xc Xg (Xc Xg (Xc Xg (Xc Xg Xh))))
 refine VS ?_ ?_
 ·exact Ye (Xc Xg (Xc Xg (Xc Xg (Xc Xg Xh))))
 exact Xh
structure Blt (mg:Str->Option Value):Prop where
 b_abs:mg "abs" =none
 b_all:mg "all" =none
 b_bool:mg "bool" =none
 b_int:mg "int" =none
 b_isinstance:mg "isinstance" =none
 b_len:mg "len" =none
 b_list:mg "list" =none
 b_range:mg "range" =none
 b_str:mg "str" =none
 c_MOST_COLOURS:∃u,mg "MOST_COLOURS" =some u/\X8 (.int 24) u
 c_MOST_FIGURES:∃u,mg "MOST_FIGURES" =some u/\X8 (.int 18) u
section
variable {P:Program}{w:World}{K:PySem.W.Frag}{mg:Str->Option Value}{base:Heap}
theorem JD:FnScope ["numbers","size"] ["numbers","size"] (Xi YY):=⟨rfl,rfl,rfl,by decide+kernel,rfl,by decide+kernel,by decide+kernel⟩
theorem JJ (D:Def K mg "all_colours" YY ["numbers","size"])(Y:Ecs XB K mg)(Z:Blt mg):Fn P w K mg base 1 "all_colours" ["numbers","size"] (sp2 (rV Xd) Xd (oF Xz) X4 K):=by
 refine Zf D JD (λvs H Q E h=>?_) (λf cdv A outer s H vs Q E hr h=>?_)
 ·obtain⟨v_0,v_1,a_0,a_1,b,rfl,_⟩:=h;rfl
 obtain⟨v_0,v_1,a_0,a_1,b,rfl,h_0,h_1,hm,q⟩:=h
 have hu:=hu8 hr
 have hu1:=YJ hr
 refine⟨_,(Xa (Xs (Xt (Uu rfl) rfl Z.b_all PyProof.Rows.boot_all (Xc (Y0 (sc:=(Xi YY)) (N0:=["numbers","size"]) (tns:=["number"]) (caps:=[(1,"size")]) rfl (XQ (K:=K) rfl (pv 0)) (YH (by decide)) (λcl C s H ex E=>⟨XH (i:=0) (show List.Nodup (["number","size"]:List Str) by decide+kernel) rfl (Or.inl rfl),YV,(CS CP UA Xg (pv 0) (pv 1))⟩)) Xh)))
  Xf),?_⟩
 refine Y1 (S:=(SC.add (SC.add SC.nil K (rV Xd) v_0 a_0) K Xd v_1 a_1)) (σ:=[some v_0,some v_1]) 0 ?_ (SC.i (SC.i SC.t h_0) h_1) hm q rfl
 unfold X4
 exact(Xu (EvS.ev (EvB.sh (Fg (Ev.toB (YT (λ_=>tg1 0) (XI (XF (r:=(rV Xd)) 0 rfl (λ_ s=>s.l.r))) (λC2 a3 v4=>(EvS.ev (EvB.sh (Jp (Xe 0) (Xb (r:=Xd) 0 rfl (λ_ s=>s.r)) (Xb (r:=Xd) 1 rfl (λ_ s=>s.l.r))))))))))))
theorem Jl:FnScope ["colours"] ["colours"] (Xi YO):=⟨rfl,rfl,rfl,by decide+kernel,rfl,by decide+kernel,by decide+kernel⟩
theorem Jd (D:Def K mg "show_colours" YO ["colours"])(Y:Ecs XB K mg)(Z:Blt mg):Fn P w K mg base 1 "show_colours" ["colours"] (sp1 (rV Xd) (oF XG) XN K):=by
 refine Zf D Jl (λvs H Q E h=>?_) (λf cdv A outer s H vs Q E hr h=>?_)
 ·obtain⟨v_0,a_0,b,rfl,_⟩:=h;rfl
 obtain⟨v_0,a_0,b,rfl,h_0,hm,q⟩:=h
 have hu:=hu8 hr
 have hu1:=YJ hr
 refine⟨_,(Xa (Xs (JP (K:=K) rfl PySem.F.plainAttrs_str PySem.F.slot_str_join PySem.F.type_str_join (Vo K rfl) YC (Xc (Y0 (sc:=(Xi YO)) (N0:=["colours"]) (tns:=["colour"]) (caps:=[]) rfl (XQ (K:=K) rfl (pv 0)) (YH (by decide)) (λcl C s H ex E=>⟨XH (i:=0) (show List.Nodup (["colour"]:List Str) by decide+kernel) rfl (Or.inl rfl),YV,(YR ZN rfl Z.b_str PyProof.Rows.boot_str (Xc (pv 0) Xh))⟩)) Xh)))
  Xf),?_⟩
 refine Y1 (S:=(SC.add SC.nil K (rV Xd) v_0 a_0)) (σ:=[some v_0]) 0 ?_ (SC.i SC.t h_0) hm q rfl
 unfold XN
 exact(Xu (EvS.ev (EvB.sh (QT (Yr _) (Ev.toB (YT (λ_=>tg1 0) (XI (XF (r:=(rV Xd)) 0 rfl (λ_ s=>s.r))) (λC2 a3 v4=>(EvS.ev (EvB.sh (VE (Xb (r:=Xd) 0 rfl (λ_ s=>s.r))))))))))))
theorem Vx:FnScope ["table"] ["table"] (Xi Zp):=⟨rfl,rfl,rfl,by decide+kernel,rfl,by decide+kernel,by decide+kernel⟩
theorem VC (D:Def K mg "show_table" Zp ["table"])(g_show_colours:Fn P w K mg base 1 "show_colours" ["colours"] (sp1 (rV Xd) (oF XG) XN K))(Y:Ecs XB K mg)(Z:Blt mg):Fn P w K mg base 2 "show_table" ["table"] (sp1 (rV (rV Xd)) (oF XG) Yu K):=by
 refine Zf D Vx (λvs H Q E h=>?_) (λf cdv A outer s H vs Q E hr h=>?_)
 ·obtain⟨v_0,a_0,b,rfl,_⟩:=h;rfl
 obtain⟨v_0,a_0,b,rfl,h_0,hm,q⟩:=h
 have hu:=hu8 hr
 have hu1:=YJ hr
 refine⟨_,(Xa (Xs (JP (K:=K) rfl PySem.F.plainAttrs_str PySem.F.slot_str_join PySem.F.type_str_join (Vo K rfl) YC (Xc (Y0 (sc:=(Xi Zp)) (N0:=["table"]) (tns:=["row"]) (caps:=[]) rfl (XQ (K:=K) rfl (pv 0)) (YH (by decide)) (λcl C s H ex E=>⟨XH (i:=0) (show List.Nodup (["row"]:List Str) by decide+kernel) rfl (Or.inl rfl),YV,(Yh g_show_colours hr (by decide) (Xc (pv 0) Xh))⟩)) Xh)))
  Xf),?_⟩
 refine Y1 (S:=(SC.add SC.nil K (rV (rV Xd)) v_0 a_0)) (σ:=[some v_0]) 0 ?_ (SC.i SC.t h_0) hm q rfl
 unfold Yu
 exact(Xu (EvS.ev (EvB.sh (QT (Yr _) (Ev.toB (YT (λ_=>tg1 0) (XI (XF (r:=(rV (rV Xd))) 0 rfl (λ_ s=>s.r))) (λC2 a3 v4=>(XX (Xb (r:=(rV Xd)) 0 rfl (λ_ s=>s.r))))))))))
theorem UW:FnScope ["line"] ["line"] (Xi QD):=⟨rfl,rfl,rfl,by decide+kernel,rfl,by decide+kernel,by decide+kernel⟩
theorem U3 (D:Def K mg "words_of" QD ["line"])(Y:Ecs XB K mg)(Z:Blt mg):Fn P w K mg base 1 "words_of" ["line"] (sp1 XG (oL (oF XG)) Yv K):=by
 refine Zf D UW (λvs H Q E h=>?_) (λf cdv A outer s H vs Q E hr h=>?_)
 ·obtain⟨v_0,a_0,b,rfl,_⟩:=h;rfl
 obtain⟨v_0,a_0,b,rfl,h_0,hm,q⟩:=h
 have hu:=hu8 hr
 have hu1:=YJ hr
 refine⟨_,(Xa (Xs (KA (Xm Gz (pv 0) YC (Xv _)) (JP (K:=K) rfl PySem.F.plainAttrs_str PySem.F.slot_str_split PySem.F.type_str_split DT (pv 0) (Xc YC Xh)) (Ye Xh)))
  Xf),?_⟩
 refine Y1 (S:=(SC.add SC.nil K XG v_0 a_0)) (σ:=[some v_0]) 0 ?_ (SC.i SC.t h_0) hm q rfl
 unfold Yv
 exact(Xu (Ii (Xk (K:=K) (JN (Xb (r:=XG) 0 rfl (λ_ s=>s.r)) (Yr _))) (CK (Xb (r:=XG) 0 rfl (λ_ s=>s.r)) (Yr _)) (VT (o:=(oF XG)))))
theorem Zs:FnScope ["word","figures","number"] ["word"] (Xi ZF):=⟨rfl,rfl,rfl,by decide+kernel,rfl,by decide+kernel,by decide+kernel⟩
theorem JL (D:Def K mg "read_number" ZF ["word"])(Y:Ecs XB K mg)(Z:Blt mg):FnX P w K mg base 1 "read_number" ["word"] (DM mg XG (oF Xd) XE K):=by
 refine DE D Zs (λvs H Q E h=>?_) (λf cdv A outer s H vs Q E hr h=>?_)
 ·obtain⟨v_0,a_0,rfl,_⟩:=h;rfl
 obtain⟨v_0,a_0,rfl,h_0,hz⟩:=h
 obtain⟨C_NoLine,h_NoLine,q_NoLine⟩:=Y.adr "NoLine" (.tail _ (.tail _ (.tail _ (.head _))))
 replace q_NoLine:=q_NoLine (by decide)
 have hu:=hu8 hr
 have hu1:=YJ hr
 refine⟨_,(Xa (PS.nox (Xy (i:=1) Zs.nd rfl (Or.inl rfl) (KA (Zx (JP (K:=K) rfl PySem.F.plainAttrs_str PySem.F.slot_str_startswith PySem.F.type_str_startswith GX (pv 0) (Xc YC Xh))) (QV HD (pv 0) (Vy Xg) Vn) (pv 0))))
  (Xa (X9 (PW.pt (UL (Zn (Zx (Ba PySem.F.plainAttrs_str PySem.F.slot_str_isdigit PySem.F.type_str_isdigit CO (pv 1)))) (Q7 (Xm U7 (Xt UB rfl Z.b_len PySem.boot_len (Xc (pv 1) Xh)) (Bt Z.c_MOST_FIGURES rfl) (Xv _)))))
   (Xa (Vi FH rfl q_NoLine rfl h_NoLine (Xc (IP (Fm (pv 0) (Bz YC Bb))) Xh))
   Xf)
   Xf)
  (Xa (PS.nox (Xy (i:=2) Zs.nd rfl (Or.inl rfl) (YR Dp rfl Z.b_int PyProof.Rows.boot_int (Xc (pv 0) Xh))))
  (Xa (X9 (Xm Gz (YR ZN rfl Z.b_str PyProof.Rows.boot_str (Xc (pv 2) Xh)) (pv 0) (Xv _))
   (Xa (Vi FH rfl q_NoLine rfl h_NoLine (Xc (IP (Fm (pv 0) (Bz YC Bb))) Xh))
   Xf)
   Xf)
  (Xa (PS.nox (Xs (pv 2)))
  Xf))))),?_⟩
 refine Fw (S:=(SC.add SC.nil K XG v_0 a_0)) (σ:=[some v_0,none,none]) 0 ?_ (SC.i SC.t h_0) hz rfl
 unfold XE
 exact(XO (K:=K) (r:=XG) 1 (EvB.sh (ET (Qk (K:=K) (GB (Xb (r:=XG) 0 rfl (λ_ s=>s.r)) (Yr _))) (Ge (Xb (r:=XG) 0 rfl (λ_ s=>s.r)) (Q1 (K:=K) (Xe 1)) QS) (Xb (r:=XG) 0 rfl (λ_ s=>s.r)))) λa1 v2=>(Yg (QG (YA (Qk (K:=K) (Ff (Xb (r:=XG) 1 rfl (λ_ s=>s.r))))) (Xk (K:=K) (Jb (CA (Xb (r:=XG) 1 rfl (λ_ s=>s.r))) (Xe 18)))) (Vv h_NoLine (E8 (K6 (K:=K) (Xb (r:=XG) 0 rfl (λ_ s=>s.l.r)) (Di Fk)))) (XO (K:=K) (r:=Xd) 2 (EvB.sh (DZ (Xb (r:=XG) 0 rfl (λ_ s=>s.l.r)))) λa18 v19=>(Yg (Xk (K:=K) (JN (VE (Xb (r:=Xd) 2 rfl (λ_ s=>s.r))) (Xb (r:=XG) 0 rfl (λ_ s=>s.l.l.r)))) (Vv h_NoLine (E8 (K6 (K:=K) (Xb (r:=XG) 0 rfl (λ_ s=>s.l.l.r)) (Di Fk)))) (Xu (EvS.ev (XF (r:=Xd) 2 rfl (λ_ s=>s.r))))))))
theorem YW:FnScope ["line","rows","word","size"] ["line"] (Xi Zr):=⟨rfl,rfl,rfl,by decide+kernel,rfl,by decide+kernel,by decide+kernel⟩
theorem Ve (D:Def K mg "read_table" Zr ["line"])(g_words_of:Fn P w K mg base 1 "words_of" ["line"] (sp1 XG (oL (oF XG)) Yv K))(g_read_number:FnX P w K mg base 1 "read_number" ["word"] (DM mg XG (oF Xd) XE K))(g_all_colours:Fn P w K mg base 1 "all_colours" ["numbers","size"] (sp2 (rV Xd) Xd (oF Xz) X4 K))(Y:Ecs XB K mg)(Z:Blt mg):FnX P w K mg base 2 "read_table" ["line"] (DM mg XG (oL (oL (oF Xd))) Yj K):=by
 refine DE D YW (λvs H Q E h=>?_) (λf cdv A outer s H vs Q E hr h=>?_)
 ·obtain⟨v_0,a_0,rfl,_⟩:=h;rfl
 obtain⟨v_0,a_0,rfl,h_0,hz⟩:=h
 obtain⟨C_NoLine,h_NoLine,q_NoLine⟩:=Y.adr "NoLine" (.tail _ (.tail _ (.tail _ (.head _))))
 replace q_NoLine:=q_NoLine (by decide)
 have hu:=hu8 hr
 have hu1:=YJ hr
 refine⟨_,(Xa (PS.nox (Xy (i:=1) YW.nd rfl (Or.inl rfl) (Ye (Xc (Ye Xh) Xh Qb))))
  (Xa (Zo PassesOwn.leaving rfl (XQ (K:=K) rfl (Yh g_words_of hr (by decide) (Xc (pv 0) Xh))) (XH (i:=2) YW.nd rfl (Or.inl rfl))
   (Xa (X9 (Xm Zi (pv 2) YC (Xv _))
    (Xa (PS.nox (Yz (Z9 PySem.F.plainAttrs_list PySem.F.slot_list_append PySem.F.type_list_append XZ (pv 1) (Xc (Ye Xh) Xh Qb))))
    Xf)
    (Xa (Yz (Z9 PySem.F.plainAttrs_list PySem.F.slot_list_append PySem.F.type_list_append XZ (X0 (Xo K rfl) (pv 1) (Hi Bg Xg) (λ_ _=>rfl)) (Xc (Vb g_read_number hr (by decide) HZ (Xc (pv 2) Xh)) Xh)))
    Xf))
   Xf))
  (Xa (PS.nox (Xy (i:=3) YW.nd rfl (Or.inr rfl) (Xt (Xx K rfl) rfl Z.b_len PySem.boot_len (Xc (pv 1) Xh))))
  (Xa (X9 (PW.pt (UL (Xm U7 (pv 3) (Bt Z.c_MOST_COLOURS rfl) (Xv _)) (Q7 (Zn (Zx (Xt (Uu rfl) rfl Z.b_all PyProof.Rows.boot_all (Xc (Y0 (sc:=(Xi Zr)) (N0:=["line","rows","word","size"]) (tns:=["row"]) (caps:=[(3,"size")]) rfl (XQ (K:=K) rfl (pv 1)) (YH (by decide)) (λcl C s H ex E=>⟨XH (i:=0) (show List.Nodup (["row","size"]:List Str) by decide+kernel) rfl (Or.inl rfl),YV,(V2 (VY Zi (Xt (Xx K rfl) rfl Z.b_len PySem.boot_len (Xc (pv 0) Xh)) (pv 1) (Xv _)) (Q8 (Yh g_all_colours hr (by decide) (Xc (pv 0) (Xc (pv 1) Xh)))))⟩)) Xh)))))))
   (Xa (Vi FH rfl q_NoLine rfl h_NoLine (Xc YC Xh))
   Xf)
   Xf)
  (Xa (PS.nox (Xs (pv 1)))
  Xf))))),?_⟩
 refine Fw (S:=(SC.add SC.nil K XG v_0 a_0)) (σ:=[some v_0,none,none,none]) 1 ?_ (SC.i SC.t h_0) hz rfl
 unfold Yj
 exact(YL (K:=K) (o:=(oL (oL (oF Xd)))) 1 0 (F3 (ZL (VT (o:=(oF Xd))) λ_=>KQ)) (Nat.le_of_ble_eq_true rfl) λa1 v2 C3=>(Z1 (K:=K) (J:=({oo:=λx9=>[x9.2.2],ss:=λx9=>[some v_0,some x9.2.1,x9.1,none],sc:=λg10 x9=>(SC.addO (SC.add SC.nil K XG v_0 a_0) K (oL (oL (oF Xd))) x9.2.1 g10 x9.2.2)}:Jn ((List (List Int))) (Option V×V×List Xr))) (λ_=>tg1 2) ((none),v2,C3) (a1) (XI (Ev.sh (XX (Xb (r:=XG) 0 rfl (λ_ s=>s.l.r))))) rfl rfl (λ_ s=>(SC.i (SC.i SC.t s.l.r) s.r)) (λg11 x12 a13 v14=>(ZC (J:=({oo:=λx18=>[x18.2],ss:=λx18=>[some v_0,some x18.1,some v14,none],sc:=λg19 x18=>(SC.addO (SC.add (SC.add SC.nil K XG v_0 a_0) K XG v14 a13) K (oL (oL (oF Xd))) x18.1 g19 x18.2)}:Jn ((List (List Int))) (V×List Xr))) (Qj (Fd:=FNd ({oo:=λx18=>[x18.2],ss:=λx18=>[some v_0,some x18.1,some v14,none],sc:=λg19 x18=>(SC.addO (SC.add (SC.add SC.nil K XG v_0 a_0) K XG v14 a13) K (oL (oL (oF Xd))) x18.1 g19 x18.2)}:Jn ((List (List Int))) (V×List Xr))) (Xk (K:=K) (Yo (Xb (r:=XG) 2 rfl (λ_ s=>s.r)) (Yr _))) (QE (K:=K) (o:=(oL (oF Xd))) (f:=λa22=>(Rs.ok (a22))) 1 0 rfl rfl rfl (λ_ s=>s.l.r) (VT (o:=(oF Xd))) λa20 C21=>(XJ (J:=_) (x12.2.1,C21) ((g11++[a20])) rfl rfl (λ_ s=>(SC.i (SC.i (SC.i SC.t s.l.l.l.r) s.l.r) s.r)))) (Cz (K:=K) (r:=Xd) 1 0 rfl rfl (λ_ s=>s.l.r) (EvB.sh (Ev.toB (Qc (Xb (r:=XG) 2 rfl (λ_ s=>s.r))))) (F5 (Xe 1)) λa28 C29=>(XJ (J:=_) (x12.2.1,C29) (a28) rfl rfl (λ_ s=>(SC.i (SC.i (SC.i SC.t s.l.l.l.r) s.l.r) s.r))))) λg31 x30=>(XJ (J:=_) ((some v14),x30.1,x30.2) (g31) rfl rfl (λ_ s=>(SC.i (SC.i SC.t s.l.l.r) s.r))))) λg32 x33=>(XO (K:=K) (r:=Xd) 3 (EvB.sh (YG (Zt (o:=(oL (oL (oF Xd)))) 1 0 rfl rfl (λ_ s=>s.r)))) λa34 v35=>(Yg (QG (Xk (K:=K) (Jb (Xb (r:=Xd) 3 rfl (λ_ s=>s.r)) (Xe 24))) (YA (Qk (K:=K) (Fg (Ev.toB (Ep (K:=K) (o1:=(oL (oL (oF Xd)))) 0 rfl (λ_ s=>s.l.r) (YT (λ_=>tg1 0) (XI (XF (r:=(rV (rV Xd))) 1 rfl (λ_ s=>s.r))) (λC39 a40 v41=>(EvS.ev (EvB.sh (Qh (Yo (YG (Xb (r:=(rV Xd)) 0 rfl (λ_ s=>s.r))) (Xb (r:=Xd) 1 rfl (λ_ s=>s.l.l.r))) (Ev.toB (Yt (Xb (r:=(rV Xd)) 0 rfl (λ_ s=>s.r)) (Xb (r:=Xd) 1 rfl (λ_ s=>s.l.l.r))))))))))))))) (Vv h_NoLine BY) (Xu (Y5 (o:=(oL (oL (oF Xd)))) 1 0 rfl rfl (λ_ s=>s.l.r)))))))
theorem Jr:FnScope ["line"] ["line"] (Xi YN):=⟨rfl,rfl,rfl,by decide+kernel,rfl,by decide+kernel,by decide+kernel⟩
theorem JA (D:Def K mg "read_colours" YN ["line"])(g_read_number:FnX P w K mg base 1 "read_number" ["word"] (DM mg XG (oF Xd) XE K))(g_words_of:Fn P w K mg base 1 "words_of" ["line"] (sp1 XG (oL (oF XG)) Yv K))(Y:Ecs XB K mg)(Z:Blt mg):FnX P w K mg base 2 "read_colours" ["line"] (DM mg XG (oL (oF Xd)) XV K):=by
 refine DE D Jr (λvs H Q E h=>?_) (λf cdv A outer s H vs Q E hr h=>?_)
 ·obtain⟨v_0,a_0,rfl,_⟩:=h;rfl
 obtain⟨v_0,a_0,rfl,h_0,hz⟩:=h
 have hu:=hu8 hr
 have hu1:=YJ hr
 refine⟨_,(Xa (Xs (Cn (sc:=(Xi YN)) (N0:=["line"]) (tns:=["word"]) (caps:=[]) HY rfl (XQ (K:=K) rfl (Yh g_words_of hr (by decide) (Xc (pv 0) Xh))) (YH (by decide)) (λcl C s H ex E hp=>⟨XH (i:=0) (show List.Nodup (["word"]:List Str) by decide+kernel) rfl (Or.inl rfl),YV,(Vb g_read_number hr (by decide) hp (Xc (pv 0) Xh))⟩)))
  Xf),?_⟩
 refine Fw (S:=(SC.add SC.nil K XG v_0 a_0)) (σ:=[some v_0]) 0 ?_ (SC.i SC.t h_0) hz rfl
 unfold XV
 exact(Xu (YT (λ_=>tg1 0) (XI (Ev.sh (XX (Xb (r:=XG) 0 rfl (λ_ s=>s.r))))) (λC3 a4 v5=>(Qc (Xb (r:=XG) 0 rfl (λ_ s=>s.r))))))
theorem VN:FnScope ["_law_script","_law_place","_law_seed","_law_cell_here"] ["_law_script","_law_place"] (Xi GO):=⟨rfl,rfl,rfl,by decide+kernel,rfl,by decide+kernel,by decide+kernel⟩
theorem Ey (D:Def K mg "_law_cell" GO ["_law_script","_law_place"])(Y:Ecs XB K mg)(Z:Blt mg):Fn P w K mg base 1 "_law_cell" ["_law_script","_law_place"] (sp2 (rL Xd) Xd (oF Xd) Jv K):=by
 refine Zf D VN (λvs H Q E h=>?_) (λf cdv A outer s H vs Q E hr h=>?_)
 ·obtain⟨v_0,v_1,a_0,a_1,b,rfl,_⟩:=h;rfl
 obtain⟨v_0,v_1,a_0,a_1,b,rfl,h_0,h_1,hm,q⟩:=h
 have hu:=hu8 hr
 have hu1:=YJ hr
 refine⟨_,(Xa (X9 (Xm UA (pv 1) (Xt (Xx K rfl) rfl Z.b_len PySem.boot_len (Xc (pv 0) Xh)) (Xv _))
   (Xa (Xs (X0 (Xo K rfl) (pv 0) (pv 1) (λ_ _=>rfl)))
   Xf)
   Xf)
  (Xa (Xy (i:=2) VN.nd rfl (Or.inl rfl) Xg)
  (Xa (Zo PassesOwn.never rfl (XQ (K:=K) rfl (QV (VW K rfl) (pv 0) Vn (Vy Xg))) (XH (i:=3) VN.nd rfl (Or.inl rfl))
   (Xa (Xy (i:=2) VN.nd rfl (Or.inl rfl) (Xn Yd (Xn Yp (Xn Yp (Xn YD (pv 2) Xg) (Xn Yd (pv 3) Xg)) Xg) Xg))
   Xf))
  (Xa (Xs (Xn Yd (Xn Yp (pv 2) (Xn YD Xg (pv 1))) Xg))
  Xf)))),?_⟩
 refine Y1 (S:=(SC.add (SC.add SC.nil K (rL Xd) v_0 a_0) K Xd v_1 a_1)) (σ:=[some v_0,some v_1,none,none]) 0 ?_ (SC.i (SC.i SC.t h_0) h_1) hm q rfl
 unfold Jv
 exact(Yg (Xk (K:=K) (JQ (Xb (r:=Xd) 1 rfl (λ_ s=>s.r)) (C8 (Xb (r:=(rL Xd)) 0 rfl (λ_ s=>s.l.r))))) (Xu (EvS.ev (EvB.sh (B0 (Xb (r:=(rL Xd)) 0 rfl (λ_ s=>s.l.r)) (Xb (r:=Xd) 1 rfl (λ_ s=>s.r)))))) (XO (K:=K) (r:=Xd) 2 (EvB.sh (Xe 5)) λa7 v8=>(Z1 (K:=K) (J:=({oo:=λx13=>[],ss:=λx13=>[some v_0,some v_1,some x13.2,x13.1],sc:=λg14 x13=>(SC.add (SC.add (SC.add SC.nil K (rL Xd) v_0 a_0) K Xd v_1 a_1) K Xd x13.2 g14)}:Jn (Int) (Option V×V))) (λ_=>tg1 3) ((none),v8) (a7) (XI (Ev.sh (G2 (Xb (r:=(rL Xd)) 0 rfl (λ_ s=>s.l.l.r)) QS (Q1 (K:=K) (Xe 63))))) rfl rfl (λ_ s=>(SC.i (SC.i (SC.i SC.t s.l.l.r) s.l.r) s.r)) (λg15 x16 a17 v18=>(XO (K:=K) (r:=Xd) 2 (EvB.sh (XM (XU (XU (Yb (Xb (r:=Xd) 2 rfl (λ_ s=>s.l.r)) (Xe 48271)) (XM (Xb (r:=Xd) 3 rfl (λ_ s=>s.r)) (Xe 1000003))) (Xe 1)) (Xe 2147483647))) λa19 v20=>(XJ (J:=_) ((some v18),v20) (a19) rfl rfl (λ_ s=>(SC.i (SC.i (SC.i SC.t s.l.l.l.l.r) s.l.l.l.r) s.r))))) λg31 x32=>(Xu (EvS.ev (EvB.sh (XM (XU (Xb (r:=Xd) 2 rfl (λ_ s=>s.r)) (Yb (Xe 7919) (Xb (r:=Xd) 1 rfl (λ_ s=>s.l.r)))) (Xe 1000003))))))))
theorem Dg:FnScope ["_law_cell_here","_law_k","_law_one","_law_two"] ["_law_cell_here","_law_k"] (Xi Ed):=⟨rfl,rfl,rfl,by decide+kernel,rfl,by decide+kernel,by decide+kernel⟩
theorem HB (D:Def K mg "_law_mix" Ed ["_law_cell_here","_law_k"])(Y:Ecs XB K mg)(Z:Blt mg):Fn P w K mg base 1 "_law_mix" ["_law_cell_here","_law_k"] (sp2 Xd Xd (oF Xd) Ka K):=by
 refine Zf D Dg (λvs H Q E h=>?_) (λf cdv A outer s H vs Q E hr h=>?_)
 ·obtain⟨v_0,v_1,a_0,a_1,b,rfl,_⟩:=h;rfl
 obtain⟨v_0,v_1,a_0,a_1,b,rfl,h_0,h_1,hm,q⟩:=h
 have hu:=hu8 hr
 have hu1:=YJ hr
 refine⟨_,(Xa (Xy (i:=2) Dg.nd rfl (Or.inl rfl) (Xn Yd (Xn JB (Xn Yp (Xn Yp (Xn Yd (pv 0) Xg) (Xn YD Xg (pv 1))) Xg) Xg) Xg))
  (Xa (Xy (i:=3) Dg.nd rfl (Or.inl rfl) (Xn Yd (Xn Yp (Xn Yp (Xn YD (pv 2) Xg) (Xn YD (Xn YD Xg (pv 1)) (pv 1))) Xg) Xg))
  (Xa (Xs (Xn VZ (pv 3) Xg))
  Xf))),?_⟩
 refine Y1 (S:=(SC.add (SC.add SC.nil K Xd v_0 a_0) K Xd v_1 a_1)) (σ:=[some v_0,some v_1,none,none]) 0 ?_ (SC.i (SC.i SC.t h_0) h_1) hm q rfl
 unfold Ka
 exact(XO (K:=K) (r:=Xd) 2 (EvB.sh (XM (Z3 (XU (XU (XM (Xb (r:=Xd) 0 rfl (λ_ s=>s.l.r)) (Xe 2147483629)) (Yb (Xe 1013) (Xb (r:=Xd) 1 rfl (λ_ s=>s.r)))) (Xe 7919)) (Xe 3)) (Xe 2147483647))) λa1 v2=>(XO (K:=K) (r:=Xd) 3 (EvB.sh (XM (XU (XU (Yb (Xb (r:=Xd) 2 rfl (λ_ s=>s.r)) (Xe 40699)) (Yb (Yb (Xe 3793) (Xb (r:=Xd) 1 rfl (λ_ s=>s.l.r))) (Xb (r:=Xd) 1 rfl (λ_ s=>s.l.r)))) (Xe 11)) (Xe 2147483399))) λa15 v16=>(Xu (EvS.ev (EvB.sh (U4 (Xb (r:=Xd) 3 rfl (λ_ s=>s.r)) (Xe 101)))))))
theorem Q2:FnScope ["_law_script","_law_place","_law_sizes","_law_cell_here","_law_left","_law_some","_law_k","_law_other"] ["_law_script","_law_place","_law_sizes"] (Xi El):=⟨rfl,rfl,rfl,by decide+kernel,rfl,by decide+kernel,by decide+kernel⟩
theorem Hu (D:Def K mg "_law_row" El ["_law_script","_law_place","_law_sizes"])(g_cell:Fn P w K mg base 1 "_law_cell" ["_law_script","_law_place"] (sp2 (rL Xd) Xd (oF Xd) Jv K))(g_mix:Fn P w K mg base 1 "_law_mix" ["_law_cell_here","_law_k"] (sp2 Xd Xd (oF Xd) Ka K))(Y:Ecs XB K mg)(Z:Blt mg):Fn P w K mg base 2 "_law_row" ["_law_script","_law_place","_law_sizes"] (sp3 (rL Xd) Xd (rV Xd) (oL (oF Xd)) JF K):=by
 refine Zf D Q2 (λvs H Q E h=>?_) (λf cdv A outer s H vs Q E hr h=>?_)
 ·obtain⟨v_0,v_1,v_2,a_0,a_1,a_2,b,rfl,_⟩:=h;rfl
 obtain⟨v_0,v_1,v_2,a_0,a_1,a_2,b,rfl,h_0,h_1,h_2,hm,q⟩:=h
 have hu:=hu8 hr
 have hu1:=YJ hr
 refine⟨_,(Xa (Xy (i:=3) Q2.nd rfl (Or.inl rfl) (Yh g_cell hr (by decide) (Xc (pv 0) (Xc (pv 1) Xh))))
  (Xa (Xy (i:=4) Q2.nd rfl (Or.inl rfl) (pv 3))
  (Xa (Xy (i:=5) Q2.nd rfl (Or.inl rfl) (Ye Xh))
  (Xa (Zo PassesOwn.never rfl (YB rfl Z.b_range (Xc (Xt (Xx K rfl) rfl Z.b_len PySem.boot_len (Xc (pv 2) Xh)) Xh)) (XH (i:=6) Q2.nd rfl (Or.inl rfl))
   (Xa (X9 (Xm UA (pv 3) (Xn JB Xg Xg) (Xv _))
    (Xa (Yz (Z9 PySem.F.plainAttrs_list PySem.F.slot_list_append PySem.F.type_list_append XZ (pv 5) (Xc (Xn Yd (Yh g_mix hr (by decide) (Xc (pv 3) (Xc (pv 6) Xh))) (X0 (Xo K rfl) (pv 2) (pv 6) (λ_ _=>rfl))) Xh)))
    Xf)
    (Xa (X9 (Xm U7 (pv 4) Xg (Xv _))
     (Xa (Yz (Z9 PySem.F.plainAttrs_list PySem.F.slot_list_append PySem.F.type_list_append XZ (pv 5) (Xc (Xn Yd (pv 4) (X0 (Xo K rfl) (pv 2) (pv 6) (λ_ _=>rfl))) Xh)))
     (Xa (Xy (i:=4) Q2.nd rfl (Or.inl rfl) (Xn VZ (pv 4) (X0 (Xo K rfl) (pv 2) (pv 6) (λ_ _=>rfl))))
     Xf))
     (Xa (Xy (i:=7) Q2.nd rfl (Or.inl rfl) (Yh g_cell hr (by decide) (Xc (pv 0) (Xc (Xn Yd (Xn Yp (Xn Yp (pv 1) Xg) (pv 6)) Xg) Xh))))
     (Xa (Yz (Z9 PySem.F.plainAttrs_list PySem.F.slot_list_append PySem.F.type_list_append XZ (pv 5) (Xc (Xn Yd (Yh g_mix hr (by decide) (Xc (pv 7) (Xc (pv 6) Xh))) (X0 (Xo K rfl) (pv 2) (pv 6) (λ_ _=>rfl))) Xh)))
     Xf)))
    Xf))
   Xf))
  (Xa (Xs (pv 5))
  Xf))))),?_⟩
 refine Y1 (S:=(SC.add (SC.add (SC.add SC.nil K (rL Xd) v_0 a_0) K Xd v_1 a_1) K (rV Xd) v_2 a_2)) (σ:=[some v_0,some v_1,some v_2,none,none,none,none,none]) 1 ?_ (SC.i (SC.i (SC.i SC.t h_0) h_1) h_2) hm q rfl
 unfold JF
 exact(XO (K:=K) (r:=Xd) 3 (EvB.sh (Ev.toB (Yt (Xb (r:=(rL Xd)) 0 rfl (λ_ s=>s.l.l.r)) (Xb (r:=Xd) 1 rfl (λ_ s=>s.l.r))))) λa1 v2=>(XO (K:=K) (r:=Xd) 4 (XF (r:=Xd) 3 rfl (λ_ s=>s.r)) λa6 v7=>(YL (K:=K) (o:=(oL (oF Xd))) 5 0 (VT (o:=(oF Xd))) (Nat.le_of_ble_eq_true rfl) λa8 v9 C10=>(Z1 (K:=K) (J:=({oo:=λx13=>[x13.2.2.2.2],ss:=λx13=>[some v_0,some v_1,some v_2,some v2,some x13.2.2.1,some x13.2.1,x13.1,x13.2.2.2.1],sc:=λg14 x13=>(SC.add (SC.addO (SC.add (SC.add (SC.add (SC.add SC.nil K (rL Xd) v_0 a_0) K Xd v_1 a_1) K (rV Xd) v_2 a_2) K Xd v2 a1) K (oL (oF Xd)) x13.2.1 g14.1 x13.2.2.2.2) K Xd x13.2.2.1 g14.2)}:Jn ((List Int)×Int) (Option V×V×V×Option V×List Xr))) (λ_=>tg1 6) ((none),v9,v7,(none),C10) (a8,a6) (X5 (YG (Xb (r:=(rV Xd)) 2 rfl (λ_ s=>s.l.l.l.r)))) rfl rfl (λ_ s=>(SC.i (SC.i (SC.i (SC.i (SC.i (SC.i SC.t s.l.l.l.l.l.r) s.l.l.l.l.r) s.l.l.l.r) s.l.l.r) s.r) s.l.r)) (λg15 x16 a17 v18=>(ZC (J:=({oo:=λx24=>[x24.2.2.2],ss:=λx24=>[some v_0,some v_1,some v_2,some v2,some x24.2.1,some x24.1,some v18,x24.2.2.1],sc:=λg25 x24=>(SC.add (SC.addO (SC.add (SC.add (SC.add (SC.add (SC.add SC.nil K (rL Xd) v_0 a_0) K Xd v_1 a_1) K (rV Xd) v_2 a_2) K Xd v2 a1) K Xd v18 a17) K (oL (oF Xd)) x24.1 g25.1 x24.2.2.2) K Xd x24.2.1 g25.2)}:Jn ((List Int)×Int) (V×V×Option V×List Xr))) (Qj (Fd:=FNd ({oo:=λx24=>[x24.2.2.2],ss:=λx24=>[some v_0,some v_1,some v_2,some v2,some x24.2.1,some x24.1,some v18,x24.2.2.1],sc:=λg25 x24=>(SC.add (SC.addO (SC.add (SC.add (SC.add (SC.add (SC.add SC.nil K (rL Xd) v_0 a_0) K Xd v_1 a_1) K (rV Xd) v_2 a_2) K Xd v2 a1) K Xd v18 a17) K (oL (oF Xd)) x24.1 g25.1 x24.2.2.2) K Xd x24.2.1 g25.2)}:Jn ((List Int)×Int) (V×V×Option V×List Xr))) (Xk (K:=K) (JQ (Xb (r:=Xd) 3 rfl (λ_ s=>s.l.l.l.r)) (Z3 (Xe 10) (Xe 18)))) (QE (K:=K) (o:=(oF Xd)) (f:=λa35=>(Rs.ok (a35,g15.2))) 5 0 rfl rfl rfl (λ_ s=>s.l.l.r) (EvS.ev (EvB.sh (XM (Ev.toB (Yt (Xb (r:=Xd) 3 rfl (λ_ s=>s.l.l.l.r)) (Xb (r:=Xd) 6 rfl (λ_ s=>s.r)))) (XL (Xb (r:=(rV Xd)) 2 rfl (λ_ s=>s.l.l.l.l.r)) (Xb (r:=Xd) 6 rfl (λ_ s=>s.r)))))) λa33 C34=>(XJ (J:=_) (x16.2.1,x16.2.2.1,(x16.2.2.2.1),C34) ((g15.1++[a33]),g15.2) rfl rfl (λ_ s=>(SC.i (SC.i (SC.i (SC.i (SC.i (SC.i (SC.i SC.t s.l.l.l.l.l.l.l.r) s.l.l.l.l.l.l.r) s.l.l.l.l.l.r) s.l.l.l.l.r) s.l.r) s.r) s.l.l.r)))) (ZC (J:=({oo:=λx39=>[x39.2.2.2],ss:=λx39=>[some v_0,some v_1,some v_2,some v2,some x39.1,some x39.2.2.1,some v18,x39.2.1],sc:=λg40 x39=>(SC.addO (SC.add (SC.add (SC.add (SC.add (SC.add (SC.add SC.nil K (rL Xd) v_0 a_0) K Xd v_1 a_1) K (rV Xd) v_2 a_2) K Xd v2 a1) K Xd v18 a17) K Xd x39.1 g40.1) K (oL (oF Xd)) x39.2.2.1 g40.2 x39.2.2.2)}:Jn (Int×(List Int)) (V×Option V×V×List Xr))) (Qj (Fd:=FNd ({oo:=λx39=>[x39.2.2.2],ss:=λx39=>[some v_0,some v_1,some v_2,some v2,some x39.1,some x39.2.2.1,some v18,x39.2.1],sc:=λg40 x39=>(SC.addO (SC.add (SC.add (SC.add (SC.add (SC.add (SC.add SC.nil K (rL Xd) v_0 a_0) K Xd v_1 a_1) K (rV Xd) v_2 a_2) K Xd v2 a1) K Xd v18 a17) K Xd x39.1 g40.1) K (oL (oF Xd)) x39.2.2.1 g40.2 x39.2.2.2)}:Jn (Int×(List Int)) (V×Option V×V×List Xr))) (Xk (K:=K) (Jb (Xb (r:=Xd) 4 rfl (λ_ s=>s.l.r)) (Xe 0))) (QE (K:=K) (o:=(oF Xd)) (f:=λa47=>(Rs.bind (Rs.bind (Rs.ok g15.2) λx52=>(Rs.bind (Rs.bind (Rs.ok a_2) λx50=>(Rs.bind (Rs.ok a17) λx51=>(atR x50 x51))) λx53=>(EH x52 x53))) λa48=>(Rs.ok (a48,a47)))) 5 0 rfl rfl rfl (λ_ s=>s.l.l.r) (EvS.ev (EvB.sh (XM (Xb (r:=Xd) 4 rfl (λ_ s=>s.l.r)) (XL (Xb (r:=(rV Xd)) 2 rfl (λ_ s=>s.l.l.l.l.r)) (Xb (r:=Xd) 6 rfl (λ_ s=>s.r)))))) λa45 C46=>(XO (K:=K) (r:=Xd) 4 (EvB.sh (U4 (Xb (r:=Xd) 4 rfl (λ_ s=>s.l.l.r)) (XL (Xb (r:=(rV Xd)) 2 rfl (λ_ s=>s.l.l.l.l.l.r)) (Xb (r:=Xd) 6 rfl (λ_ s=>s.l.r))))) λa48 v49=>(XJ (J:=_) (v49,(x16.2.2.2.1),x16.2.1,C46) (a48,(g15.1++[a45])) rfl rfl (λ_ s=>(SC.i (SC.i (SC.i (SC.i (SC.i (SC.i (SC.i SC.t s.l.l.l.l.l.l.l.l.r) s.l.l.l.l.l.l.l.r) s.l.l.l.l.l.l.r) s.l.l.l.l.l.r) s.l.l.r) s.r) s.l.r))))) (XO (K:=K) (r:=Xd) 7 (EvB.sh (Ev.toB (Yt (Xb (r:=(rL Xd)) 0 rfl (λ_ s=>s.l.l.l.l.l.l.r)) (XM (XU (XU (Xb (r:=Xd) 1 rfl (λ_ s=>s.l.l.l.l.l.r)) (Xe 1)) (Xb (r:=Xd) 6 rfl (λ_ s=>s.r))) (Xe 63))))) λa54 v55=>(QE (K:=K) (o:=(oF Xd)) (f:=λa74=>(Rs.ok (g15.2,a74))) 5 0 rfl rfl rfl (λ_ s=>s.l.l.l.r) (EvS.ev (EvB.sh (XM (Ev.toB (Yt (Xb (r:=Xd) 7 rfl (λ_ s=>s.r)) (Xb (r:=Xd) 6 rfl (λ_ s=>s.l.r)))) (XL (Xb (r:=(rV Xd)) 2 rfl (λ_ s=>s.l.l.l.l.l.r)) (Xb (r:=Xd) 6 rfl (λ_ s=>s.l.r)))))) λa72 C73=>(XJ (J:=_) (x16.2.2.1,(some v55),x16.2.1,C73) (g15.2,(g15.1++[a72])) rfl rfl (λ_ s=>(SC.i (SC.i (SC.i (SC.i (SC.i (SC.i (SC.i SC.t s.l.l.l.l.l.l.l.l.r) s.l.l.l.l.l.l.l.r) s.l.l.l.l.l.l.r) s.l.l.l.l.l.r) s.l.l.r) s.l.l.l.r) s.r)))))) λg76 x75=>(XJ (J:=_) (x75.2.2.1,x75.1,(x75.2.1),x75.2.2.2) (g76.2,g76.1) rfl rfl (λ_ s=>(SC.i (SC.i (SC.i (SC.i (SC.i (SC.i (SC.i SC.t s.l.l.l.l.l.l.r) s.l.l.l.l.l.r) s.l.l.l.l.r) s.l.l.l.r) s.l.l.r) s.r) s.l.r))))) λg78 x77=>(XJ (J:=_) ((some v18),x77.1,x77.2.1,(x77.2.2.1),x77.2.2.2) (g78.1,g78.2) rfl rfl (λ_ s=>(SC.i (SC.i (SC.i (SC.i (SC.i (SC.i SC.t s.l.l.l.l.l.l.r) s.l.l.l.l.l.r) s.l.l.l.l.r) s.l.l.l.r) s.l.r) s.r))))) λg79 x80=>(Xu (Y5 (o:=(oL (oF Xd))) 5 0 rfl rfl (λ_ s=>s.l.r)))))))
theorem JV:FnScope ["_law_way","_law_size","_law_factor","_law_a","_law_b","_law_half"] ["_law_way","_law_size","_law_factor","_law_a","_law_b"] (Xi Jw):=⟨rfl,rfl,rfl,by decide+kernel,rfl,by decide+kernel,by decide+kernel⟩
theorem Gf (D:Def K mg "_law_cell_of" Jw ["_law_way","_law_size","_law_factor","_law_a","_law_b"])(Y:Ecs XB K mg)(Z:Blt mg):Fn P w K mg base 1 "_law_cell_of" ["_law_way","_law_size","_law_factor","_law_a","_law_b"] (sp5 Xd Xd Xd Xd Xd (oF Xd) Zb K):=by
 refine Zf D JV (λvs H Q E h=>?_) (λf cdv A outer s H vs Q E hr h=>?_)
 ·obtain⟨v_0,v_1,v_2,v_3,v_4,a_0,a_1,a_2,a_3,a_4,b,rfl,_⟩:=h;rfl
 obtain⟨v_0,v_1,v_2,v_3,v_4,a_0,a_1,a_2,a_3,a_4,b,rfl,h_0,h_1,h_2,h_3,h_4,hm,q⟩:=h
 have hu:=hu8 hr
 have hu1:=YJ hr
 refine⟨_,(Xa (Xy (i:=5) JV.nd rfl (Or.inl rfl) (Xn VZ (pv 1) Xg))
  (Xa (X9 (Xm Zi (pv 0) Xg (Xv _))
   (Xa (Xs (Xn Yd (Xn Zj (Xn YD Xg (pv 4)) (pv 3)) (pv 1)))
   Xf)
   Xf)
  (Xa (X9 (Xm Zi (pv 0) Xg (Xv _))
   (Xa (Xs (Xn Yd (Xn Yp (Xn YD (pv 2) (pv 3)) (Xn YD (Xn Zj Xg (pv 2)) (pv 4))) (pv 1)))
   Xf)
   Xf)
  (Xa (X9 (PW.pt (ZI (Xm Zi (pv 0) Xg (Xv _)) (ZI (Xm U7 (pv 1) Xg (Xv _)) (ZI (Xm UA (pv 3) Xg (Xv _)) (QB (Xm Zi (pv 4) (Xn Zj (pv 1) Xg) (Xv _)))))))
   (Xa (Xs (Xn Zj Xg (pv 3)))
   Xf)
   Xf)
  (Xa (X9 (PW.pt (ZI (Xm Zi (pv 0) Xg (Xv _)) (ZI (Xm UA (pv 3) (Xn Zj (pv 1) Xg) (Xv _)) (QB (Xm Zi (pv 4) (Xn Zj (pv 1) Xg) (Xv _))))))
   (Xa (Xs (Xn Yd (Xn Yp (pv 3) Xg) (Xn Zj (pv 1) Xg)))
   Xf)
   Xf)
  (Xa (X9 (PW.pt (ZI (Xm Zi (pv 0) Xg (Xv _)) (ZI (Xm UA (pv 3) (pv 5) (Xv _)) (QB (Xm UA (pv 4) (pv 5) (Xv _))))))
   (Xa (Xs (Xn Yd (Xn Zj (Xn YD Xg (pv 4)) (pv 3)) (pv 5)))
   Xf)
   Xf)
  (Xa (X9 (PW.pt (ZI (Xm Zi (pv 0) Xg (Xv _)) (ZI (Xm Ex (pv 3) (pv 5) (Xv _)) (QB (Xm Ex (pv 4) (pv 5) (Xv _))))))
   (Xa (Xs (Xn Yp (pv 5) (Xn Yd (Xn Zj (Xn Zj (Xn YD Xg (pv 4)) (pv 3)) (pv 5)) (Xn Zj (pv 1) (pv 5)))))
   Xf)
   Xf)
  (Xa (Xs (pv 3))
  Xf)))))))),?_⟩
 refine Y1 (S:=(SC.add (SC.add (SC.add (SC.add (SC.add SC.nil K Xd v_0 a_0) K Xd v_1 a_1) K Xd v_2 a_2) K Xd v_3 a_3) K Xd v_4 a_4)) (σ:=[some v_0,some v_1,some v_2,some v_3,some v_4,none]) 0 ?_ (SC.i (SC.i (SC.i (SC.i (SC.i SC.t h_0) h_1) h_2) h_3) h_4) hm q rfl
 unfold Zb
 exact(XO (K:=K) (r:=Xd) 5 (EvB.sh (U4 (Xb (r:=Xd) 1 rfl (λ_ s=>s.l.l.l.r)) (Xe 2))) λa1 v2=>(Yg (Xk (K:=K) (Yo (Xb (r:=Xd) 0 rfl (λ_ s=>s.l.l.l.l.l.r)) (Xe 1))) (Xu (EvS.ev (EvB.sh (XM (Yy (Yb (Xe 2) (Xb (r:=Xd) 4 rfl (λ_ s=>s.l.r))) (Xb (r:=Xd) 3 rfl (λ_ s=>s.l.l.r))) (Xb (r:=Xd) 1 rfl (λ_ s=>s.l.l.l.l.r)))))) (Yg (Xk (K:=K) (Yo (Xb (r:=Xd) 0 rfl (λ_ s=>s.l.l.l.l.l.r)) (Xe 2))) (Xu (EvS.ev (EvB.sh (XM (XU (Yb (Xb (r:=Xd) 2 rfl (λ_ s=>s.l.l.l.r)) (Xb (r:=Xd) 3 rfl (λ_ s=>s.l.l.r))) (Yb (Yy (Xe 1) (Xb (r:=Xd) 2 rfl (λ_ s=>s.l.l.l.r))) (Xb (r:=Xd) 4 rfl (λ_ s=>s.l.r)))) (Xb (r:=Xd) 1 rfl (λ_ s=>s.l.l.l.l.r)))))) (Yg (Y8 (Xk (K:=K) (Yo (Xb (r:=Xd) 0 rfl (λ_ s=>s.l.l.l.l.l.r)) (Xe 3))) (Y8 (Xk (K:=K) (Jb (Xb (r:=Xd) 1 rfl (λ_ s=>s.l.l.l.l.r)) (Xe 2))) (Y8 (Xk (K:=K) (JQ (Xb (r:=Xd) 3 rfl (λ_ s=>s.l.l.r)) (Xe 2))) (Xk (K:=K) (Yo (Xb (r:=Xd) 4 rfl (λ_ s=>s.l.r)) (Yy (Xb (r:=Xd) 1 rfl (λ_ s=>s.l.l.l.l.r)) (Xe 1))))))) (Xu (EvS.ev (EvB.sh (Yy (Xe 1) (Xb (r:=Xd) 3 rfl (λ_ s=>s.l.l.r)))))) (Yg (Y8 (Xk (K:=K) (Yo (Xb (r:=Xd) 0 rfl (λ_ s=>s.l.l.l.l.l.r)) (Xe 6))) (Y8 (Xk (K:=K) (JQ (Xb (r:=Xd) 3 rfl (λ_ s=>s.l.l.r)) (Yy (Xb (r:=Xd) 1 rfl (λ_ s=>s.l.l.l.l.r)) (Xe 1)))) (Xk (K:=K) (Yo (Xb (r:=Xd) 4 rfl (λ_ s=>s.l.r)) (Yy (Xb (r:=Xd) 1 rfl (λ_ s=>s.l.l.l.l.r)) (Xe 1)))))) (Xu (EvS.ev (EvB.sh (XM (XU (Xb (r:=Xd) 3 rfl (λ_ s=>s.l.l.r)) (Xe 1)) (Yy (Xb (r:=Xd) 1 rfl (λ_ s=>s.l.l.l.l.r)) (Xe 1)))))) (Yg (Y8 (Xk (K:=K) (Yo (Xb (r:=Xd) 0 rfl (λ_ s=>s.l.l.l.l.l.r)) (Xe 4))) (Y8 (Xk (K:=K) (JQ (Xb (r:=Xd) 3 rfl (λ_ s=>s.l.l.r)) (Xb (r:=Xd) 5 rfl (λ_ s=>s.r)))) (Xk (K:=K) (JQ (Xb (r:=Xd) 4 rfl (λ_ s=>s.l.r)) (Xb (r:=Xd) 5 rfl (λ_ s=>s.r)))))) (Xu (EvS.ev (EvB.sh (XM (Yy (Yb (Xe 2) (Xb (r:=Xd) 4 rfl (λ_ s=>s.l.r))) (Xb (r:=Xd) 3 rfl (λ_ s=>s.l.l.r))) (Xb (r:=Xd) 5 rfl (λ_ s=>s.r)))))) (Yg (Y8 (Xk (K:=K) (Yo (Xb (r:=Xd) 0 rfl (λ_ s=>s.l.l.l.l.l.r)) (Xe 4))) (Y8 (Xk (K:=K) (Dd (Xb (r:=Xd) 3 rfl (λ_ s=>s.l.l.r)) (Xb (r:=Xd) 5 rfl (λ_ s=>s.r)))) (Xk (K:=K) (Dd (Xb (r:=Xd) 4 rfl (λ_ s=>s.l.r)) (Xb (r:=Xd) 5 rfl (λ_ s=>s.r)))))) (Xu (EvS.ev (EvB.sh (XU (Xb (r:=Xd) 5 rfl (λ_ s=>s.r)) (XM (Yy (Yy (Yb (Xe 2) (Xb (r:=Xd) 4 rfl (λ_ s=>s.l.r))) (Xb (r:=Xd) 3 rfl (λ_ s=>s.l.l.r))) (Xb (r:=Xd) 5 rfl (λ_ s=>s.r))) (Yy (Xb (r:=Xd) 1 rfl (λ_ s=>s.l.l.l.l.r)) (Xb (r:=Xd) 5 rfl (λ_ s=>s.r)))))))) (Xu (EvS.ev (XF (r:=Xd) 3 rfl (λ_ s=>s.l.l.r)))))))))))
theorem Js:FnScope ["_law_one","_law_other"] ["_law_one","_law_other"] (Xi Vr):=⟨rfl,rfl,rfl,by decide+kernel,rfl,by decide+kernel,by decide+kernel⟩
theorem FK (D:Def K mg "_law_common" Vr ["_law_one","_law_other"])(Y:Ecs XB K mg)(Z:Blt mg):Fn P w K mg base 1 "_law_common" ["_law_one","_law_other"] (sp2 Xd Xd (oF Xd) ZP K):=by
 refine Zf D Js (λvs H Q E h=>?_) (λf cdv A outer s H vs Q E hr h=>?_)
 ·obtain⟨v_0,v_1,a_0,a_1,b,rfl,_⟩:=h;rfl
 obtain⟨v_0,v_1,a_0,a_1,b,rfl,h_0,h_1,hm,q⟩:=h
 have hu:=hu8 hr
 have hu1:=YJ hr
 refine⟨_,(Xa (Bi (i:=0) (j:=1) rfl Js.nd rfl rfl (by decide) rfl rfl (Xc (Xt Vj rfl Z.b_abs PyProof.Rows.boot_abs (Xc (pv 0) Xh)) (Xc (Xt Vj rfl Z.b_abs PyProof.Rows.boot_abs (Xc (pv 1) Xh)) Xh)) rfl)
  (Xa (K9 PassesOwn.never (Xm U7 (pv 1) Xg (Xv _))
   (Xa (Bi (i:=0) (j:=1) rfl Js.nd rfl rfl (by decide) rfl rfl (Xc (pv 1) (Xc (Xn Yd (pv 0) (pv 1)) Xh)) rfl)
   Xf))
  (Xa (Xs (pv 0))
  Xf))),?_⟩
 refine Y1 (S:=(SC.add (SC.add SC.nil K Xd v_0 a_0) K Xd v_1 a_1)) (σ:=[some v_0,some v_1]) 0 ?_ (SC.i (SC.i SC.t h_0) h_1) hm q rfl
 unfold ZP
 exact(By (K:=K) 0 1 (EvB.sh (UR (Xb (r:=Xd) 0 rfl (λ_ s=>s.l.r)))) (EvB.sh (UR (Xb (r:=Xd) 1 rfl (λ_ s=>s.r)))) λa3 a4 v5 v6=>(K7 (J:=({oo:=λx7=>[],ss:=λx7=>[some x7.1,some x7.2],sc:=λg8 x7=>(SC.add (SC.add SC.nil K Xd x7.1 g8.1) K Xd x7.2 g8.2)}:Jn (Int×Int) (V×V))) (a3.natAbs+a4.natAbs+2) (v5,v6) (a3,a4) rfl rfl (λ_ s=>(SC.i (SC.i SC.t s.l.r) s.r)) (λg9 x10=>(Xk (K:=K) (Jb (Xb (r:=Xd) 1 rfl (λ_ s=>s.r)) (Xe 0)))) (λg9 x10=>(By (K:=K) 0 1 (XF (r:=Xd) 1 rfl (λ_ s=>s.r)) (EvB.sh (XM (Xb (r:=Xd) 0 rfl (λ_ s=>s.l.r)) (Xb (r:=Xd) 1 rfl (λ_ s=>s.r)))) λa15 a16 v17 v18=>(XJ (J:=_) (v17,v18) (a15,a16) rfl rfl (λ_ s=>(SC.i (SC.i SC.t s.l.r) s.r))))) λg19 x20=>(Xu (EvS.ev (XF (r:=Xd) 0 rfl (λ_ s=>s.l.r))))))
theorem VX:FnScope ["_law_way","_law_size","_law_factor","_law_some","_law_a"] ["_law_way","_law_size","_law_factor"] (Xi Ko):=⟨rfl,rfl,rfl,by decide+kernel,rfl,by decide+kernel,by decide+kernel⟩
theorem Ek (D:Def K mg "_law_made" Ko ["_law_way","_law_size","_law_factor"])(g_common:Fn P w K mg base 1 "_law_common" ["_law_one","_law_other"] (sp2 Xd Xd (oF Xd) ZP K))(g_cell_of:Fn P w K mg base 1 "_law_cell_of" ["_law_way","_law_size","_law_factor","_law_a","_law_b"] (sp5 Xd Xd Xd Xd Xd (oF Xd) Zb K))(Y:Ecs XB K mg)(Z:Blt mg):Fn P w K mg base 2 "_law_made" ["_law_way","_law_size","_law_factor"] (sp3 Xd Xd Xd (oL (oL (oF Xd))) JO K):=by
 refine Zf D VX (λvs H Q E h=>?_) (λf cdv A outer s H vs Q E hr h=>?_)
 ·obtain⟨v_0,v_1,v_2,a_0,a_1,a_2,b,rfl,_⟩:=h;rfl
 obtain⟨v_0,v_1,v_2,a_0,a_1,a_2,b,rfl,h_0,h_1,h_2,hm,q⟩:=h
 have hu:=hu8 hr
 have hu1:=YJ hr
 refine⟨_,(Xa (X9 (PW.pt (ZI (Xm Zi (pv 0) Xg (Xv _)) (QB (Xm Zi (pv 1) Xg (Xv _)))))
   (@Xa _ _ _ _ _ (@Xs _ _ _ _ (@U0 _))
   Xf)
   Xf)
  (Xa (K9 PassesOwn.never (Xm Gz (Yh g_common hr (by decide) (Xc (pv 2) (Xc (pv 1) Xh))) Xg (Xv _))
   (Xa (Xy (i:=2) VX.nd rfl (Or.inr rfl) (Xn Yp (pv 2) Xg))
   Xf))
  (Xa (Xy (i:=3) VX.nd rfl (Or.inl rfl) (Ye Xh))
  (Xa (Zo PassesOwn.never rfl (YB rfl Z.b_range (Xc (pv 1) Xh)) (XH (i:=4) VX.nd rfl (Or.inr rfl))
   (Xa (Yz (Z9 PySem.F.plainAttrs_list PySem.F.slot_list_append PySem.F.type_list_append XZ (pv 3) (Xc (Y0 (sc:=(Xi Ko)) (N0:=["_law_way","_law_size","_law_factor","_law_some","_law_a"]) (tns:=["_law_b"]) (caps:=[(0,"_law_way"),(1,"_law_size"),(2,"_law_factor"),(4,"_law_a")]) rfl (YB rfl Z.b_range (Xc (pv 1) Xh)) (YH (by decide)) (λcl C s H ex E=>⟨XH (i:=0) (show List.Nodup (["_law_b","_law_way","_law_size","_law_factor","_law_a"]:List Str) by decide+kernel) rfl (Or.inl rfl),YV,(Yh g_cell_of hr (by decide) (Xc (pv 1) (Xc (pv 2) (Xc (pv 3) (Xc (pv 4) (Xc (pv 0) Xh))))))⟩)) Xh)))
   Xf))
  (Xa (Xs (pv 3))
  Xf))))),?_⟩
 refine Y1 (S:=(SC.add (SC.add (SC.add SC.nil K Xd v_0 a_0) K Xd v_1 a_1) K Xd v_2 a_2)) (σ:=[some v_0,some v_1,some v_2,none,none]) 1 ?_ (SC.i (SC.i (SC.i SC.t h_0) h_1) h_2) hm q rfl
 unfold JO
 exact(Yg (Y8 (Xk (K:=K) (Yo (Xb (r:=Xd) 0 rfl (λ_ s=>s.l.l.r)) (Xe 5))) (Xk (K:=K) (Yo (Xb (r:=Xd) 1 rfl (λ_ s=>s.l.r)) (Xe 4)))) (Xu (F3 (ZL (Zv (Xl (EvB.sh (Xe 0)) (Xl (EvB.sh (Xe 3)) (Xl (EvB.sh (Xe 1)) (Xl (EvB.sh (Xe 2)) YF))))) λ_=>(ZL (Zv (Xl (EvB.sh (Xe 2)) (Xl (EvB.sh (Xe 1)) (Xl (EvB.sh (Xe 3)) (Xl (EvB.sh (Xe 0)) YF))))) λ_=>(ZL (Zv (Xl (EvB.sh (Xe 3)) (Xl (EvB.sh (Xe 0)) (Xl (EvB.sh (Xe 2)) (Xl (EvB.sh (Xe 1)) YF))))) λ_=>(ZL (Zv (Xl (EvB.sh (Xe 1)) (Xl (EvB.sh (Xe 2)) (Xl (EvB.sh (Xe 0)) (Xl (EvB.sh (Xe 3)) YF))))) λ_=>KQ)))))) (K7 (J:=({oo:=λx51=>[[]],ss:=λx51=>[some v_0,some v_1,some x51,none,none],sc:=λg52 x51=>(SC.add (SC.add (SC.add SC.nil K Xd v_0 a_0) K Xd v_1 a_1) K Xd x51 g52)}:Jn (Int) (V))) (a_1.natAbs+2) (v_2) (a_2) rfl rfl (λ_ s=>(SC.i (SC.i (SC.i SC.t s.l.l.r) s.l.r) s.r)) (λg53 x54=>(Xk (K:=K) (JN (Ev.toB (Yt (Xb (r:=Xd) 2 rfl (λ_ s=>s.r)) (Xb (r:=Xd) 1 rfl (λ_ s=>s.l.r)))) (Xe 1)))) (λg53 x54=>(XO (K:=K) (r:=Xd) 2 (EvB.sh (XU (Xb (r:=Xd) 2 rfl (λ_ s=>s.r)) (Xe 1))) λa60 v61=>(XJ (J:=_) (v61) (a60) rfl rfl (λ_ s=>(SC.i (SC.i (SC.i SC.t s.l.l.l.r) s.l.l.r) s.r))))) λg64 x65=>(YL (K:=K) (o:=(oL (oL (oF Xd)))) 3 0 (VT (o:=(oL (oF Xd)))) (Nat.le_of_ble_eq_true rfl) λa66 v67 C68=>(Z1 (K:=K) (J:=({oo:=λx70=>[x70.2.2],ss:=λx70=>[some v_0,some v_1,some x65,some x70.2.1,x70.1],sc:=λg71 x70=>(SC.addO (SC.add (SC.add (SC.add SC.nil K Xd v_0 a_0) K Xd v_1 a_1) K Xd x65 g64) K (oL (oL (oF Xd))) x70.2.1 g71 x70.2.2)}:Jn ((List (List Int))) (Option V×V×List Xr))) (λ_=>tg1 4) ((none),v67,C68) (a66) (X5 (Xb (r:=Xd) 1 rfl (λ_ s=>s.l.l.r))) rfl rfl (λ_ s=>(SC.i (SC.i (SC.i (SC.i SC.t s.l.l.l.r) s.l.l.r) s.l.r) s.r)) (λg72 x73 a74 v75=>(QE (K:=K) (o:=(oL (oF Xd))) (f:=λa89=>(Rs.ok (a89))) 3 0 rfl rfl rfl (λ_ s=>s.l.r) (YT (λ_=>tg1 0) (X5 (Xb (r:=Xd) 1 rfl (λ_ s=>s.l.l.l.r))) (λC77 a78 v79=>(Cm (Xb (r:=Xd) 1 rfl (λ_ s=>s.l.l.l.l.l.r)) (Xb (r:=Xd) 2 rfl (λ_ s=>s.l.l.l.l.r)) (Xb (r:=Xd) 3 rfl (λ_ s=>s.l.l.l.r)) (Xb (r:=Xd) 4 rfl (λ_ s=>s.l.r)) (Xb (r:=Xd) 0 rfl (λ_ s=>s.r))))) λa87 C88=>(XJ (J:=_) ((some v75),x73.2.1,C88) ((g72++[a87])) rfl rfl (λ_ s=>(SC.i (SC.i (SC.i (SC.i SC.t s.l.l.l.l.l.r) s.l.l.l.l.r) s.l.l.l.r) s.r))))) λg90 x91=>(Xu (Y5 (o:=(oL (oL (oF Xd)))) 3 0 rfl rfl (λ_ s=>s.r)))))))
theorem ZU:FnScope ["_law_some","_law_count","_law_left","_law_found","_law_k"] ["_law_some","_law_count"] (Xi Jh):=⟨rfl,rfl,rfl,by decide+kernel,rfl,by decide+kernel,by decide+kernel⟩
theorem Gg (D:Def K mg "_law_ordered" Jh ["_law_some","_law_count"])(Y:Ecs XB K mg)(Z:Blt mg):Fn P w K mg base 1 "_law_ordered" ["_law_some","_law_count"] (sp2 (rV Xd) Xd (oL (oF Xd)) Zz K):=by
 refine Zf D ZU (λvs H Q E h=>?_) (λf cdv A outer s H vs Q E hr h=>?_)
 ·obtain⟨v_0,v_1,a_0,a_1,b,rfl,_⟩:=h;rfl
 obtain⟨v_0,v_1,a_0,a_1,b,rfl,h_0,h_1,hm,q⟩:=h
 have hu:=hu8 hr
 have hu1:=YJ hr
 refine⟨_,(Xa (Xy (i:=2) ZU.nd rfl (Or.inl rfl) (UJ rfl rfl rfl Z.b_list Z.b_range (Xc (pv 1) Xh)))
  (Xa (Xy (i:=3) ZU.nd rfl (Or.inl rfl) (Ye Xh))
  (Xa (Zo PassesOwn.never rfl (YB rfl Z.b_range (Xc (pv 1) Xh)) (XH (i:=4) ZU.nd rfl (Or.inl rfl))
   (Xa (Yz (Z9 PySem.F.plainAttrs_list PySem.F.slot_list_append PySem.F.type_list_append XZ (pv 3) (Xc (Z9 PySem.F.plainAttrs_list PySem.F.slot_list_pop PySem.F.type_list_pop Cl (pv 2) (Xc (Xn Yd (X0 (Xo K rfl) (pv 0) (pv 4) (λ_ _=>rfl)) (Xt (Xx K rfl) rfl Z.b_len PySem.boot_len (Xc (pv 2) Xh))) Xh)) Xh)))
   Xf))
  (Xa (Xs (pv 3))
  Xf)))),?_⟩
 refine Y1 (S:=(SC.add (SC.add SC.nil K (rV Xd) v_0 a_0) K Xd v_1 a_1)) (σ:=[some v_0,some v_1,none,none,none]) 2 ?_ (SC.i (SC.i SC.t h_0) h_1) hm q rfl
 unfold Zz
 exact(YL (K:=K) (o:=(oL (oF Xd))) 2 1 (UF (Xb (r:=Xd) 1 rfl (λ_ s=>s.r))) (Nat.le_of_ble_eq_true rfl) λa1 v2 C3=>(YL (K:=K) (o:=(oL (oF Xd))) 3 0 (VT (o:=(oF Xd))) (Nat.le_of_ble_eq_true rfl) λa5 v6 C7=>(Z1 (K:=K) (J:=({oo:=λx9=>[x9.2.2.2.1,x9.2.2.2.2],ss:=λx9=>[some v_0,some v_1,some x9.2.2.1,some x9.2.1,x9.1],sc:=λg10 x9=>(SC.addO (SC.addO (SC.add (SC.add SC.nil K (rV Xd) v_0 a_0) K Xd v_1 a_1) K (oL (oF Xd)) x9.2.1 g10.1 x9.2.2.2.1) K (oL (oF Xd)) x9.2.2.1 g10.2 x9.2.2.2.2)}:Jn ((List Int)×(List Int)) (Option V×V×V×List Xr×List Xr))) (λ_=>tg1 4) ((none),v6,v2,C7,C3) (a5,a1) (X5 (Xb (r:=Xd) 1 rfl (λ_ s=>s.l.l.r))) rfl rfl (λ_ s=>(SC.i (SC.i (SC.i (SC.i SC.t s.l.l.l.r) s.l.l.r) s.r) s.l.r)) (λg11 x12 a13 v14=>(C5 (K:=K) (r:=Xd) (f:=λa21 a22=>(Rs.ok (a22,a21))) 2 1 3 0 (by decide) rfl rfl (λ_ s=>s.l.r) rfl rfl (λ_ s=>s.l.l.r) (XM (XL (Xb (r:=(rV Xd)) 0 rfl (λ_ s=>s.l.l.l.l.r)) (Xb (r:=Xd) 4 rfl (λ_ s=>s.r))) (YG (Zt (o:=(oL (oF Xd))) 2 1 rfl rfl (λ_ s=>s.l.r)))) λa20 a21 C23 C24=>(XJ (J:=_) ((some v14),x12.2.1,x12.2.2.1,C24,C23) ((g11.1++[a20]),a21) rfl rfl (λ_ s=>(SC.i (SC.i (SC.i (SC.i SC.t s.l.l.l.l.l.l.r) s.l.l.l.l.l.r) s.r) s.l.r))))) λg27 x28=>(Xu (Y5 (o:=(oL (oF Xd))) 3 0 rfl rfl (λ_ s=>s.l.r))))))
theorem Qi:FnScope ["_law_some","_law_spots","_law_found","_law_a","_law_b"] ["_law_some","_law_spots"] (Xi QX):=⟨rfl,rfl,rfl,by decide+kernel,rfl,by decide+kernel,by decide+kernel⟩
theorem GL (D:Def K mg "_law_relaid" QX ["_law_some","_law_spots"])(Y:Ecs XB K mg)(Z:Blt mg):Fn P w K mg base 1 "_law_relaid" ["_law_some","_law_spots"] (sp2 (rV (rV Xd)) (rV Xd) (oL (oL (oF Xd))) ZX K):=by
 refine Zf D Qi (λvs H Q E h=>?_) (λf cdv A outer s H vs Q E hr h=>?_)
 ·obtain⟨v_0,v_1,a_0,a_1,b,rfl,_⟩:=h;rfl
 obtain⟨v_0,v_1,a_0,a_1,b,rfl,h_0,h_1,hm,q⟩:=h
 have hu:=hu8 hr
 have hu1:=YJ hr
 refine⟨_,(Xa (Ki 2 (Xi QX) ["_law_some","_law_spots","_law_found","_law_a","_law_b"] ["_law_line"] [] rfl Qi.nd rfl rfl (XQ (K:=K) rfl (pv 0)) (YH (by decide)) (λcl C s H ex E=>⟨XH (i:=0) (show List.Nodup (["_law_line"]:List Str) by decide+kernel) rfl (Or.inl rfl),YV,(YR (YZ K rfl) rfl Z.b_list PyProof.Rows.boot_list (Xc (pv 0) Xh))⟩))
  (Xa (Zo PassesOwn.never rfl (YB rfl Z.b_range (Xc (Xt (Xx K rfl) rfl Z.b_len PySem.boot_len (Xc (pv 0) Xh)) Xh)) (XH (i:=3) Qi.nd rfl (Or.inl rfl))
   (Xa (Zo PassesOwn.never rfl (YB rfl Z.b_range (Xc (Xt (Xx K rfl) rfl Z.b_len PySem.boot_len (Xc (pv 0) Xh)) Xh)) (XH (i:=4) Qi.nd rfl (Or.inl rfl))
    (Xa (DH (X0 (Xo K rfl) (pv 1) (X0 (Xo K rfl) (X0 (Xo K rfl) (pv 0) (pv 3) (λ_ _=>rfl)) (pv 4) (λ_ _=>rfl)) (λ_ _=>rfl)) (DB (X0 (Xo K rfl) (pv 2) (X0 (Xo K rfl) (pv 1) (pv 3) (λ_ _=>rfl)) (λ_ _=>rfl)) (X0 (Xo K rfl) (pv 1) (pv 4) (λ_ _=>rfl)) VI))
    Xf))
   Xf))
  (Xa (Xs (pv 2))
  Xf))),?_⟩
 refine Y1 (S:=(SC.add (SC.add SC.nil K (rV (rV Xd)) v_0 a_0) K (rV Xd) v_1 a_1)) (σ:=[some v_0,some v_1,none,none,none]) 1 ?_ (SC.i (SC.i SC.t h_0) h_1) hm q rfl
 unfold ZX
 exact(YL (K:=K) (o:=(oL (oL (oF Xd)))) 2 0 (YT (λ_=>tg1 0) (XI (XF (r:=(rV (rV Xd))) 0 rfl (λ_ s=>s.l.r))) (λC4 a5 v6=>(VP (EvS.ls (XF (r:=(rV Xd)) 0 rfl (λ_ s=>s.r)))))) (Nat.le_of_ble_eq_true rfl) λa1 v2 C3=>(Z1 (K:=K) (J:=({oo:=λx11=>[x11.2.2.2],ss:=λx11=>[some v_0,some v_1,some x11.2.2.1,x11.1,x11.2.1],sc:=λg12 x11=>(SC.addO (SC.add (SC.add SC.nil K (rV (rV Xd)) v_0 a_0) K (rV Xd) v_1 a_1) K (oL (oL (oF Xd))) x11.2.2.1 g12 x11.2.2.2)}:Jn ((List (List Int))) (Option V×Option V×V×List Xr))) (λ_=>tg1 3) ((none),(none),v2,C3) (a1) (X5 (YG (Xb (r:=(rV (rV Xd))) 0 rfl (λ_ s=>s.l.l.r)))) rfl rfl (λ_ s=>(SC.i (SC.i (SC.i SC.t s.l.l.r) s.l.r) s.r)) (λg13 x14 a15 v16=>(Z1 (K:=K) (J:=({oo:=λx19=>[x19.2.2],ss:=λx19=>[some v_0,some v_1,some x19.2.1,some v16,x19.1],sc:=λg20 x19=>(SC.addO (SC.add (SC.add (SC.add SC.nil K (rV (rV Xd)) v_0 a_0) K (rV Xd) v_1 a_1) K Xd v16 a15) K (oL (oL (oF Xd))) x19.2.1 g20 x19.2.2)}:Jn ((List (List Int))) (Option V×V×List Xr))) (λ_=>tg1 4) ((x14.2.1),x14.2.2.1,x14.2.2.2) (g13) (X5 (YG (Xb (r:=(rV (rV Xd))) 0 rfl (λ_ s=>s.l.l.l.r)))) rfl rfl (λ_ s=>(SC.i (SC.i (SC.i (SC.i SC.t s.l.l.l.r) s.l.l.r) s.r) s.l.r)) (λg21 x22 a23 v24=>(Db (K:=K) (r:=Xd) 2 0 rfl rfl (λ_ s=>s.l.r) (EvB.sh (XL (Xb (r:=(rV Xd)) 1 rfl (λ_ s=>s.l.l.l.r)) (XL (XL (Xb (r:=(rV (rV Xd))) 0 rfl (λ_ s=>s.l.l.l.l.r)) (Xb (r:=Xd) 3 rfl (λ_ s=>s.l.l.r))) (Xb (r:=Xd) 4 rfl (λ_ s=>s.r))))) (XL (Xb (r:=(rV Xd)) 1 rfl (λ_ s=>s.l.l.l.r)) (Xb (r:=Xd) 3 rfl (λ_ s=>s.l.l.r))) (XL (Xb (r:=(rV Xd)) 1 rfl (λ_ s=>s.l.l.l.r)) (Xb (r:=Xd) 4 rfl (λ_ s=>s.r))) λa38 C39=>(XJ (J:=_) ((some v24),x22.2.1,C39) (a38) rfl rfl (λ_ s=>(SC.i (SC.i (SC.i (SC.i SC.t s.l.l.l.l.l.r) s.l.l.l.l.r) s.l.l.l.r) s.r))))) λg42 x43=>(XJ (J:=_) ((some v16),(x43.1),x43.2.1,x43.2.2) (g42) rfl rfl (λ_ s=>(SC.i (SC.i (SC.i SC.t s.l.l.l.r) s.l.l.r) s.r))))) λg45 x46=>(Xu (Y5 (o:=(oL (oL (oF Xd)))) 2 0 rfl rfl (λ_ s=>s.r)))))
theorem QZ:FnScope ["_law_script","_law_place","_law_most","_law_some","_law_size","_law_found"] ["_law_script","_law_place","_law_most"] (Xi Kl):=⟨rfl,rfl,rfl,by decide+kernel,rfl,by decide+kernel,by decide+kernel⟩
theorem CY (D:Def K mg "_law_table" Kl ["_law_script","_law_place","_law_most"])(g_row:Fn P w K mg base 2 "_law_row" ["_law_script","_law_place","_law_sizes"] (sp3 (rL Xd) Xd (rV Xd) (oL (oF Xd)) JF K))(g_made:Fn P w K mg base 2 "_law_made" ["_law_way","_law_size","_law_factor"] (sp3 Xd Xd Xd (oL (oL (oF Xd))) JO K))(g_relaid:Fn P w K mg base 1 "_law_relaid" ["_law_some","_law_spots"] (sp2 (rV (rV Xd)) (rV Xd) (oL (oL (oF Xd))) ZX K))(g_ordered:Fn P w K mg base 1 "_law_ordered" ["_law_some","_law_count"] (sp2 (rV Xd) Xd (oL (oF Xd)) Zz K))(Y:Ecs XB K mg)(Z:Blt mg):Fn P w K mg base 3 "_law_table" ["_law_script","_law_place","_law_most"] (sp3 (rL Xd) Xd Xd (oL (oL (oF Xd))) Qz K):=by
 refine Zf D QZ (λvs H Q E h=>?_) (λf cdv A outer s H vs Q E hr h=>?_)
 ·obtain⟨v_0,v_1,v_2,a_0,a_1,a_2,b,rfl,_⟩:=h;rfl
 obtain⟨v_0,v_1,v_2,a_0,a_1,a_2,b,rfl,h_0,h_1,h_2,hm,q⟩:=h
 have hu:=hu8 hr
 have hu1:=YJ hr
 refine⟨_,(Xa (Xy (i:=3) QZ.nd rfl (Or.inl rfl) (Yh g_row hr (by decide) (Xc (pv 0) (Xc (pv 1) (Xc (Xn Kw (Ye (Xc Xg (Xc Xg (Xc Xg (Xc Xg Xh))))) (Xn DJ (Ye (Xc Xg Xh)) Xg)) Xh)))))
  (Xa (Xy (i:=4) QZ.nd rfl (Or.inl rfl) (Xn Yp Xg (Xn Yd (X0 (Xo K rfl) (pv 3) Xg (λ_ _=>rfl)) (pv 2))))
  (Xa (Xy (i:=5) QZ.nd rfl (Or.inl rfl) (Yh g_made hr (by decide) (Xc (X0 (Xo K rfl) (pv 3) Xg (λ_ _=>rfl)) (Xc (pv 4) (Xc (Xn Yp Xg (X0 (Xo K rfl) (pv 3) Xg (λ_ _=>rfl))) Xh)))))
  (Xa (X9 (Xm Zi (X0 (Xo K rfl) (pv 3) Xg (λ_ _=>rfl)) Xg (Xv _))
   (Xa (Xs (pv 5))
   Xf)
   Xf)
  (Xa (Xs (Yh g_relaid hr (by decide) (Xc (pv 5) (Xc (Yh g_ordered hr (by decide) (Xc (QV (VW K rfl) (pv 3) (Vy Xg) Vn) (Xc (pv 4) Xh))) Xh))))
  Xf))))),?_⟩
 refine Y1 (S:=(SC.add (SC.add (SC.add SC.nil K (rL Xd) v_0 a_0) K Xd v_1 a_1) K Xd v_2 a_2)) (σ:=[some v_0,some v_1,some v_2,none,none,none]) 1 ?_ (SC.i (SC.i (SC.i SC.t h_0) h_1) h_2) hm q rfl
 unfold Qz
 exact(XO (K:=K) (r:=(rV Xd)) 3 (Ev.sh (ZS (Xb (r:=(rL Xd)) 0 rfl (λ_ s=>s.l.l.r)) (Xb (r:=Xd) 1 rfl (λ_ s=>s.l.r)) (Ev.toB (KR (Ev.ls (Zv (Xl (EvB.sh (Xe 7)) (Xl (EvB.sh (Xe 24)) (Xl (EvB.sh (Xe 6)) (Xl (EvB.sh (Xe 2)) YF)))))) (Ev.ls (F6 (Ev.ls (Zv (Xl (EvB.sh (Xe 24)) YF))) (Xe 24))))))) λa1 v2=>(XO (K:=K) (r:=Xd) 4 (EvB.sh (XU (Xe 1) (XM (XL (Xb (r:=(rV Xd)) 3 rfl (λ_ s=>s.r)) (Xe 1)) (Xb (r:=Xd) 2 rfl (λ_ s=>s.l.r))))) λa23 v24=>(YL (K:=K) (o:=(oL (oL (oF Xd)))) 5 0 (ZS (XL (Xb (r:=(rV Xd)) 3 rfl (λ_ s=>s.l.r)) (Xe 0)) (Xb (r:=Xd) 4 rfl (λ_ s=>s.r)) (XU (Xe 2) (XL (Xb (r:=(rV Xd)) 3 rfl (λ_ s=>s.l.r)) (Xe 2)))) (Nat.le_of_ble_eq_true rfl) λa31 v32 C33=>(Yg (Xk (K:=K) (Yo (XL (Xb (r:=(rV Xd)) 3 rfl (λ_ s=>s.l.l.r)) (Xe 3)) (Xe 0))) (Xu (Y5 (o:=(oL (oL (oF Xd)))) 5 0 rfl rfl (λ_ s=>s.r))) (Xu (Yt (Zt (o:=(oL (oL (oF Xd)))) 5 0 rfl rfl (λ_ s=>s.r)) (Ev.toB (Yt (Ev.toB (Kt (EvS.ls (XF (r:=(rV Xd)) 3 rfl (λ_ s=>s.l.l.r))) (Q1 (K:=K) (Xe 4)) QS)) (Xb (r:=Xd) 4 rfl (λ_ s=>s.l.r))))))))))
theorem U2:FnScope ["_law_one"] ["_law_one"] (Xi Qy):=⟨rfl,rfl,rfl,by decide+kernel,rfl,by decide+kernel,by decide+kernel⟩
theorem Kj (D:Def K mg "_law_is_whole" Qy ["_law_one"])(Y:Ecs XB K mg)(Z:Blt mg):Fn P w K mg base 1 "_law_is_whole" ["_law_one"] (sp1 Xd (oF Xz) ZO K):=by
 refine Zf D U2 (λvs H Q E h=>?_) (λf cdv A outer s H vs Q E hr h=>?_)
 ·obtain⟨v_0,a_0,b,rfl,_⟩:=h;rfl
 obtain⟨v_0,a_0,b,rfl,h_0,hm,q⟩:=h
 have hu:=hu8 hr
 have hu1:=YJ hr
 refine⟨_,(Xa (Xs (V2 (Xt Zg rfl Z.b_isinstance PyProof.Rows.boot_isinstance (Xc (pv 0) (Xc (Q6 (v:=V.ty "int") rfl Z.b_int PyProof.Rows.boot_int rfl) Xh))) (Q8 (FC (Xt Zg rfl Z.b_isinstance PyProof.Rows.boot_isinstance (Xc (pv 0) (Xc (Q6 (v:=V.ty "bool") rfl Z.b_bool PyProof.Rows.boot_bool rfl) Xh)))))))
  Xf),?_⟩
 refine Y1 (S:=(SC.add SC.nil K Xd v_0 a_0)) (σ:=[some v_0]) 0 ?_ (SC.i SC.t h_0) hm q rfl
 unfold ZO
 exact(Xu (EvS.ev (EvB.sh (Qh (Zw "int" true (QY K "int") (Xb (r:=Xd) 0 rfl (λ_ s=>s.r))) (Vl (Zw "bool" false (Uj K) (Xb (r:=Xd) 0 rfl (λ_ s=>s.r))))))))
theorem QI:FnScope ["_law_found","_law_one"] ["_law_found"] (Xi Z7):=⟨rfl,rfl,rfl,by decide+kernel,rfl,by decide+kernel,by decide+kernel⟩
theorem UI (D:Def K mg "_law_is_wholes" Z7 ["_law_found"])(g_is_whole:Fn P w K mg base 1 "_law_is_whole" ["_law_one"] (sp1 Xd (oF Xz) ZO K))(Y:Ecs XB K mg)(Z:Blt mg):Fn P w K mg base 2 "_law_is_wholes" ["_law_found"] (sp1 (rV Xd) (oF Xz) X3 K):=by
 refine Zf D QI (λvs H Q E h=>?_) (λf cdv A outer s H vs Q E hr h=>?_)
 ·obtain⟨v_0,a_0,b,rfl,_⟩:=h;rfl
 obtain⟨v_0,a_0,b,rfl,h_0,hm,q⟩:=h
 have hu:=hu8 hr
 have hu1:=YJ hr
 refine⟨_,(Xa (X9 (Zn (Zx (Xt Zg rfl Z.b_isinstance PyProof.Rows.boot_isinstance (Xc (pv 0) (Xc (Q6 (v:=V.ty "list") rfl Z.b_list PyProof.Rows.boot_list rfl) Xh)))))
   (Xa (Xs ZH)
   Xf)
   Xf)
  (Xa (Zo PassesOwn.never rfl (XQ (K:=K) rfl (pv 0)) (XH (i:=1) QI.nd rfl (Or.inl rfl))
   (Xa (X9 (Zn (Zx (Yh g_is_whole hr (by decide) (Xc (pv 1) Xh))))
    (Xa (Xs ZH)
    Xf)
    Xf)
   Xf))
  (Xa (Xs ZH)
  Xf))),?_⟩
 refine Y1 (S:=(SC.add SC.nil K (rV Xd) v_0 a_0)) (σ:=[some v_0,none]) 0 ?_ (SC.i SC.t h_0) hm q rfl
 unfold X3
 exact(Yg (YA (Qk (K:=K) (Zw "list" true (QY K "list") (Xb (r:=(rV Xd)) 0 rfl (λ_ s=>s.r))))) (Xu (EvS.ev (EvB.sh (YQ false)))) (Fh (K:=K) (J:=({oo:=λx4=>[],ss:=λx4=>[some v_0,x4],sc:=λg5 x4=>(SC.add SC.nil K (rV Xd) v_0 a_0)}:Jn (Unit) (Option V))) (λ_=>tg1 1) ((none)) () (XI (XF (r:=(rV Xd)) 0 rfl (λ_ s=>s.r))) rfl rfl (λ_ s=>(SC.i SC.t s.r)) (λg6 x7 a8 v9=>(U9 (YA (Qk (K:=K) (Ev.toB (XX (Xb (r:=Xd) 1 rfl (λ_ s=>s.r)))))) (Xu (EvS.ev (EvB.sh (YQ false)))) (Fu (XJ (J:=_) ((some v9)) () rfl rfl (λ_ s=>(SC.i SC.t s.l.r)))))) λg16 x17=>(Xu (EvS.ev (EvB.sh (YQ true))))))
theorem CB:FnScope ["_law_numbers"] ["_law_numbers"] (Xi Vw):=⟨rfl,rfl,rfl,by decide+kernel,rfl,by decide+kernel,by decide+kernel⟩
theorem Cu (D:Def K mg "_law_words" Vw ["_law_numbers"])(Y:Ecs XB K mg)(Z:Blt mg):Fn P w K mg base 1 "_law_words" ["_law_numbers"] (sp1 (rV Xd) (oF XG) Zu K):=by
 refine Zf D CB (λvs H Q E h=>?_) (λf cdv A outer s H vs Q E hr h=>?_)
 ·obtain⟨v_0,a_0,b,rfl,_⟩:=h;rfl
 obtain⟨v_0,a_0,b,rfl,h_0,hm,q⟩:=h
 have hu:=hu8 hr
 have hu1:=YJ hr
 refine⟨_,(Xa (Xs (JP (K:=K) rfl PySem.F.plainAttrs_str PySem.F.slot_str_join PySem.F.type_str_join (Vo K rfl) YC (Xc (Y0 (sc:=(Xi Vw)) (N0:=["_law_numbers"]) (tns:=["_law_one"]) (caps:=[]) rfl (XQ (K:=K) rfl (pv 0)) (YH (by decide)) (λcl C s H ex E=>⟨XH (i:=0) (show List.Nodup (["_law_one"]:List Str) by decide+kernel) rfl (Or.inl rfl),YV,(YR ZN rfl Z.b_str PyProof.Rows.boot_str (Xc (pv 0) Xh))⟩)) Xh)))
  Xf),?_⟩
 refine Y1 (S:=(SC.add SC.nil K (rV Xd) v_0 a_0)) (σ:=[some v_0]) 0 ?_ (SC.i SC.t h_0) hm q rfl
 unfold Zu
 exact(Xu (EvS.ev (EvB.sh (QT (Yr _) (Ev.toB (YT (λ_=>tg1 0) (XI (XF (r:=(rV Xd)) 0 rfl (λ_ s=>s.r))) (λC2 a3 v4=>(EvS.ev (EvB.sh (VE (Xb (r:=Xd) 0 rfl (λ_ s=>s.r))))))))))))
theorem Jf:FnScope ["_law_way","_law_line","_law_found","e","_law_other"] ["_law_way","_law_line"] (Xi Dt):=⟨rfl,rfl,rfl,by decide+kernel,rfl,by decide+kernel,by decide+kernel⟩
theorem BR (D:Def K mg "_law_read" Dt ["_law_way","_law_line"])(g_read_table:FnX P w K mg base 2 "read_table" ["line"] (DM mg XG (oL (oL (oF Xd))) Yj K))(g_read_colours:FnX P w K mg base 2 "read_colours" ["line"] (DM mg XG (oL (oF Xd)) XV K))(Y:Ecs XB K mg)(Z:Blt mg):Fn P w K mg base 3 "_law_read" ["_law_way","_law_line"] (sp2 (rC 0) XG (oEi (oF (rP2 XG Xz)) (oT2 (oF XG) (oL (oL (oF Xd))))) Va K):=by
  refine Zf D Jf (λvs H Q E h=>?_) (λf cdv A outer s H vs Q E hr h=>?_)
  . obtain⟨v_0,v_1,a_0,a_1,b,rfl,_⟩:=h;rfl
  obtain⟨v_0,v_1,a_0,a_1,b,rfl,h_0,h_1,hm,q⟩:=h
  obtain⟨C_PlaitError,h_PlaitError,q_PlaitError⟩:=Y.adr "PlaitError" (.head _)
  obtain⟨C_TooBig,h_TooBig,q_TooBig⟩:=Y.adr "TooBig" (.tail _ (.head _))
  obtain⟨C_NoFit,h_NoFit,q_NoFit⟩:=Y.adr "NoFit" (.tail _ (.tail _ (.head _)))
  obtain⟨C_NoLine,h_NoLine,q_NoLine⟩:=Y.adr "NoLine" (.tail _ (.tail _ (.tail _ (.head _))))
  have hu:=hu8 hr
  have hu1:=YJ hr
  refine⟨_,(Xa (Be rfl rfl rfl rfl h_PlaitError Jf.nd (i:=3) rfl rfl rfl (λpn xe E hp=>(Xa (X9 (Xm Zi (pv 0) Xg (Xv _))
        (Xa (Xy (i:=2) Jf.nd rfl (Or.inl rfl) (Vb g_read_table hr (by decide) hp (Xc (pv 1) Xh)))
        Xf)
        (Xa (Xy (i:=2) Jf.nd rfl (Or.inl rfl) (Vb g_read_colours hr (by decide) hp (Xc (pv 1) Xh)))
        Xf))
      Xf))
     (λpn a o C hm hc=>(Xa (Xy (i:=4) Jf.nd rfl (Or.inl rfl) (Ho (Xt (ZT rfl hm hc rfl) rfl Z.b_isinstance PyProof.Rows.boot_isinstance (Xc (pv 3) (Xc (Z8 (v:=V.ref C_TooBig) rfl h_TooBig rfl) Xh))) (Q8 (Xt (ZT rfl hm hc rfl) rfl Z.b_isinstance PyProof.Rows.boot_isinstance (Xc (pv 3) (Xc (Z8 (v:=V.ref C_NoFit) rfl h_NoFit rfl) Xh))))))
      (Xa (Xs (QN (Xc YC (Xc (V2 (Xt (ZT rfl hm hc rfl) rfl Z.b_isinstance PyProof.Rows.boot_isinstance (Xc (pv 3) (Xc (Z8 (v:=V.ref C_NoLine) rfl h_NoLine rfl) Xh))) (Q8 (FC (pv 4)))) Xh))))
      Xf))))
    (Xa (Xs (QN (Xc YC (Xc (pv 2) Xh))))
    Xf)),?_⟩
  refine Y1 (S:=(SC.add (SC.add SC.nil K (rC 0) v_0 a_0) K XG v_1 a_1)) (σ:=[some v_0,some v_1,none,none,none]) 1 ?_ (SC.i (SC.i SC.t h_0) h_1) hm q rfl
  unfold Va
  exact(Cr (mc:=(Rs.bind (Rs.bind (Rs.ok a_0) λ_=>Rs.ok (0:Int)) λx8=>(Rs.bind (Rs.ok (0:Int)) λx9=>(Rs.ok (decide (x8=x9)))))) (o1:=(oL (oL (oF Xd)))) (K:=K) (d:="PlaitError") (N:=5) (i:=3) Y (.head _) h_PlaitError 2 0 (λ_=>(Xk (K:=K) (Yo (Bx (Xb (r:=(rC 0)) 0 rfl (λ_ s=>s.l.r))) (Xe 0)))) rfl (λ_=>(Qc (Xb (r:=XG) 1 rfl (λ_ s=>s.r)))) (Nat.le_of_ble_eq_true rfl) (λa10 v11 C12=>(Xu (Bn (QW (EvS.ev (EvB.sh (Yr _))) λ_=>(Y5 (o:=(oL (oL (oF Xd)))) 2 1 rfl rfl (λ_ s=>s.r)))))) (λx1 hx C a hC=>(XO (K:=K) (r:=Xz) 4 (EvB.sh (Fz (Qv 3 rfl (Y.att _ hx C hC) (Y.kit _ hx "TooBig" (.tail _ (.head _)) C C_TooBig hC h_TooBig)) (Qv 3 rfl (Y.att _ hx C hC) (Y.kit _ hx "NoFit" (.tail _ (.tail _ (.head _))) C C_NoFit hC h_NoFit)))) λa2 v3=>(Xu (Bp (EvS.ev (QU (EvB.sh (Yr _)) (EvB.sh (Qh (Qv 3 rfl (Y.att _ hx C hC) (Y.kit _ hx "NoLine" (.tail _ (.tail _ (.tail _ (.head _)))) C C_NoLine hC h_NoLine)) (Vl (Xb (r:=Xz) 4 rfl (λ_ s=>s.r))))))))))))
theorem Z6:FnScope ["_law_table_here","_law_line","_law_one"] ["_law_table_here"] (Xi Qx):=⟨rfl,rfl,rfl,by decide+kernel,rfl,by decide+kernel,by decide+kernel⟩
theorem UV (D:Def K mg "_law_is_table" Qx ["_law_table_here"])(Y:Ecs XB K mg)(Z:Blt mg):Fn P w K mg base 1 "_law_is_table" ["_law_table_here"] (sp1 (rV (rV Xd)) (oF Xz) Y2 K):=by
 refine Zf D Z6 (λvs H Q E h=>?_) (λf cdv A outer s H vs Q E hr h=>?_)
 ·obtain⟨v_0,a_0,b,rfl,_⟩:=h;rfl
 obtain⟨v_0,a_0,b,rfl,h_0,hm,q⟩:=h
 have hu:=hu8 hr
 have hu1:=YJ hr
 refine⟨_,(Xa (X9 (Zn (Gb CP CP Xg (Xt (Xx K rfl) rfl Z.b_len PySem.boot_len (Xc (pv 0) Xh)) Xg))
   (Xa (Xs ZH)
   Xf)
   Xf)
  (Xa (Zo PassesOwn.never rfl (XQ (K:=K) rfl (pv 0)) (XH (i:=1) Z6.nd rfl (Or.inl rfl))
   (Xa (X9 (Xm Gz (Xt (Xx K rfl) rfl Z.b_len PySem.boot_len (Xc (pv 1) Xh)) (Xt (Xx K rfl) rfl Z.b_len PySem.boot_len (Xc (pv 0) Xh)) (Xv _))
    (Xa (Xs ZH)
    Xf)
    Xf)
   (Xa (Zo PassesOwn.never rfl (XQ (K:=K) rfl (pv 1)) (XH (i:=2) Z6.nd rfl (Or.inl rfl))
    (Xa (X9 (Zn (Gb CP UA Xg (pv 2) (Xt (Xx K rfl) rfl Z.b_len PySem.boot_len (Xc (pv 0) Xh))))
     (Xa (Xs ZH)
     Xf)
     Xf)
    Xf))
   Xf)))
  (Xa (Xs ZH)
  Xf))),?_⟩
 refine Y1 (S:=(SC.add SC.nil K (rV (rV Xd)) v_0 a_0)) (σ:=[some v_0,none,none]) 0 ?_ (SC.i SC.t h_0) hm q rfl
 unfold Y2
 exact(Yg (YA (Xk (K:=K) (Jp (Xe 1) (YG (Xb (r:=(rV (rV Xd))) 0 rfl (λ_ s=>s.r))) (Xe 24)))) (Xu (EvS.ev (EvB.sh (YQ false)))) (Fh (K:=K) (J:=({oo:=λx7=>[],ss:=λx7=>[some v_0,x7.1,x7.2],sc:=λg8 x7=>(SC.add SC.nil K (rV (rV Xd)) v_0 a_0)}:Jn (Unit) (Option V×Option V))) (λ_=>tg1 1) ((none),(none)) () (XI (XF (r:=(rV (rV Xd))) 0 rfl (λ_ s=>s.r))) rfl rfl (λ_ s=>(SC.i SC.t s.r)) (λg9 x10 a11 v12=>(U9 (Xk (K:=K) (JN (YG (Xb (r:=(rV Xd)) 1 rfl (λ_ s=>s.r))) (YG (Xb (r:=(rV (rV Xd))) 0 rfl (λ_ s=>s.l.r))))) (Xu (EvS.ev (EvB.sh (YQ false)))) (Cp (K:=K) (J:=({oo:=λx18=>[],ss:=λx18=>[some v_0,some v12,x18],sc:=λg19 x18=>(SC.add (SC.add SC.nil K (rV (rV Xd)) v_0 a_0) K (rV Xd) v12 a11)}:Jn (Unit) (Option V))) (λ_=>tg1 2) ((x10.2)) () (XI (XF (r:=(rV Xd)) 1 rfl (λ_ s=>s.r))) rfl rfl (λ_ s=>(SC.i (SC.i SC.t s.l.r) s.r)) (λg20 x21 a22 v23=>(U9 (YA (Xk (K:=K) (Jp (Xe 0) (Xb (r:=Xd) 2 rfl (λ_ s=>s.r)) (YG (Xb (r:=(rV (rV Xd))) 0 rfl (λ_ s=>s.l.l.r)))))) (Xu (EvS.ev (EvB.sh (YQ false)))) (Fu (XJ (J:=_) ((some v23)) () rfl rfl (λ_ s=>(SC.i (SC.i SC.t s.l.l.r) s.l.r)))))) λg32 x33=>(Fu (XJ (J:=_) ((some v12),(x33)) () rfl rfl (λ_ s=>(SC.i SC.t s.l.r))))))) λg37 x38=>(Xu (EvS.ev (EvB.sh (YQ true))))))
theorem YE:FnScope ["_law_table_here","_law_line","_law_found","_law_handed","_law_told","_law_one"] ["_law_table_here"] (Xi Y4):=⟨rfl,rfl,rfl,by decide+kernel,rfl,by decide+kernel,by decide+kernel⟩
theorem Kf (D:Def K mg "_law_of_table" Y4 ["_law_table_here"])(g_read:Fn P w K mg base 3 "_law_read" ["_law_way","_law_line"] (sp2 (rC 0) XG (oEi (oF (rP2 XG Xz)) (oT2 (oF XG) (oL (oL (oF Xd))))) Va K))(g_show_table:Fn P w K mg base 2 "show_table" ["table"] (sp1 (rV (rV Xd)) (oF XG) Yu K))(g_is_table:Fn P w K mg base 1 "_law_is_table" ["_law_table_here"] (sp1 (rV (rV Xd)) (oF Xz) Y2 K))(g_words:Fn P w K mg base 1 "_law_words" ["_law_numbers"] (sp1 (rV Xd) (oF XG) Zu K))(g_is_wholes:Fn P w K mg base 2 "_law_is_wholes" ["_law_found"] (sp1 (rV Xd) (oF Xz) X3 K))(Y:Ecs XB K mg)(Z:Blt mg):Fn P w K mg base 4 "_law_of_table" ["_law_table_here"] (sp1 (rV (rV Xd)) (oF Xz) Yw K):=by
 refine Zf D YE (λvs H Q E h=>?_) (λf cdv A outer s H vs Q E hr h=>?_)
 ·obtain⟨v_0,a_0,b,rfl,_⟩:=h;rfl
 obtain⟨v_0,a_0,b,rfl,h_0,hm,q⟩:=h
 have hu:=hu8 hr
 have hu1:=YJ hr
 refine⟨_,(Xa (Xy (i:=1) YE.nd rfl (Or.inl rfl) (JP (K:=K) rfl PySem.F.plainAttrs_str PySem.F.slot_str_join PySem.F.type_str_join (Vo K rfl) YC (Xc (Y0 (sc:=(Xi Y4)) (N0:=["_law_table_here","_law_line","_law_found","_law_handed","_law_told","_law_one"]) (tns:=["_law_one"]) (caps:=[]) rfl (XQ (K:=K) rfl (pv 0)) (YH (by decide)) (λcl C s H ex E=>⟨XH (i:=0) (show List.Nodup (["_law_one"]:List Str) by decide+kernel) rfl (Or.inl rfl),YV,(Yh g_words hr (by decide) (Xc (pv 0) Xh))⟩)) Xh)))
  (Xa (Xy (i:=2) YE.nd rfl (Or.inl rfl) (Yh g_read hr (by decide) (Xc Xg (Xc (pv 1) Xh))))
  (Xa (X9 (Zn (Zx (Yh g_is_table hr (by decide) (Xc (pv 0) Xh))))
   (Xa (Xs (VY (G5 (KZ ((UO QO Cj).up (by decide)) (UO (QO.up (by decide)) (Fi (Fi eq_int))) ((K5 QO (Km (r:=Xz) (q:=(rV (rV Xd))) rfl rfl)).up (by decide))) (UX (by decide) hu)) (pv 2) (QN (Xc YC (Xc ZH Xh))) (Xv _)))
   Xf)
   Xf)
  (Xa (Ki 3 (Xi Y4) ["_law_table_here","_law_line","_law_found","_law_handed","_law_told","_law_one"] ["_law_one"] [] rfl YE.nd rfl rfl (XQ (K:=K) rfl (pv 0)) (YH (by decide)) (λcl C s H ex E=>⟨XH (i:=0) (show List.Nodup (["_law_one"]:List Str) by decide+kernel) rfl (Or.inl rfl),YV,(YR (YZ K rfl) rfl Z.b_list PyProof.Rows.boot_list (Xc (pv 0) Xh))⟩))
  (Xa (Xy (i:=4) YE.nd rfl (Or.inl rfl) (Yh g_show_table hr (by decide) (Xc (pv 3) Xh)))
  (Xa (X9 (PW.pt (UL (Zn (Zx (Xt Zg rfl Z.b_isinstance PyProof.Rows.boot_isinstance (Xc (pv 4) (Xc (Q6 (v:=V.ty "str") rfl Z.b_str PyProof.Rows.boot_str rfl) Xh))))) (UL (Xm Gz (pv 4) (pv 1) (Xv _)) (Q7 (Xm (K3 (Fi (Fi eq_int)) (UX (by decide) hu)) (pv 3) (pv 0) (Xv _))))))
   (Xa (Xs ZH)
   Xf)
   Xf)
  (Xa (X9 (Xm (K3 (KZ ((UO QO Cj).up (by decide)) (UO (QO.up (by decide)) (Fi (Fi eq_int))) ((K5 QO (Km (r:=Xz) (q:=(rV (rV Xd))) rfl rfl)).up (by decide))) (UX (by decide) hu)) (pv 2) (QN (Xc YC (Xc (pv 0) Xh))) (Xv _))
   (Xa (Xs ZH)
   Xf)
   Xf)
  (Xa (Zo PassesOwn.never rfl (XQ (K:=K) rfl (X0 (VV K rfl) (pv 2) Xg (λ_ _=>rfl))) (XH (i:=5) YE.nd rfl (Or.inl rfl))
   (Xa (X9 (Zn (Zx (Yh g_is_wholes hr (by decide) (Xc (pv 5) Xh))))
    (Xa (Xs ZH)
    Xf)
    Xf)
   (Xa (Yz (Z9 PySem.F.plainAttrs_list PySem.F.slot_list_append PySem.F.type_list_append XZ (pv 5) (Xc Xg Xh)))
   Xf)))
  (Xa (Xs (VY (G5 (Fi (Fi eq_int)) (UX (by decide) hu)) (X0 (VV K rfl) (pv 2) Xg (λ_ _=>rfl)) (Y0 (sc:=(Xi Y4)) (N0:=["_law_table_here","_law_line","_law_found","_law_handed","_law_told","_law_one"]) (tns:=["_law_line"]) (caps:=[]) rfl (XQ (K:=K) rfl (pv 0)) (YH (by decide)) (λcl C s H ex E=>⟨XH (i:=0) (show List.Nodup (["_law_line"]:List Str) by decide+kernel) rfl (Or.inl rfl),YV,(Xn Kw (pv 0) (Ye (Xc Xg Xh)))⟩)) (Xv _)))
  Xf))))))))),?_⟩
 refine Y1 (S:=(SC.add SC.nil K (rV (rV Xd)) v_0 a_0)) (σ:=[some v_0,none,none,none,none,none]) 2 ?_ (SC.i SC.t h_0) hm q rfl
 unfold Yw
 exact(XO (K:=K) (r:=XG) 1 (EvB.sh (QT (Yr _) (Ev.toB (YT (λ_=>tg1 0) (XI (XF (r:=(rV (rV Xd))) 0 rfl (λ_ s=>s.r))) (λC4 a5 v6=>(XX (Xb (r:=(rV Xd)) 0 rfl (λ_ s=>s.r)))))))) λa1 v2=>(YL (K:=K) (o:=(oEi (oF (rP2 XG Xz)) (oT2 (oF XG) (oL (oL (oF Xd)))))) 2 1 (Yt (Hl 0) (Xb (r:=XG) 1 rfl (λ_ s=>s.r))) (Nat.le_of_ble_eq_true rfl) λa11 v12 C13=>(Yg (YA (Qk (K:=K) (Ev.toB (XX (Xb (r:=(rV (rV Xd))) 0 rfl (λ_ s=>s.l.l.r)))))) (Xu (EvS.ev (EvB.sh (UQ (Zt (o:=(oEi (oF (rP2 XG Xz)) (oT2 (oF XG) (oL (oL (oF Xd)))))) 2 1 rfl rfl (λ_ s=>s.r)) (F9 (p:=(rP2 XG (rV (rV Xd)))) (Ev.toB (EvS.ev (QU (EvB.sh (Yr _)) (EvB.sh (YQ true)))))))))) (XO (K:=K) (r:=(rV (rV Xd))) 3 (Ev.sh (YT (λ_=>tg1 0) (XI (XF (r:=(rV (rV Xd))) 0 rfl (λ_ s=>s.l.l.r))) (λC28 a29 v30=>(VP (EvS.ls (XF (r:=(rV Xd)) 0 rfl (λ_ s=>s.r))))))) λa26 v27=>(XO (K:=K) (r:=XG) 4 (EvB.sh (Ev.toB (XX (Xb (r:=(rV (rV Xd))) 3 rfl (λ_ s=>s.r))))) λa33 v34=>(Yg (QG (YA (Qk (K:=K) (Zw "str" true (QY K "str") (Xb (r:=XG) 4 rfl (λ_ s=>s.r))))) (QG (Xk (K:=K) (JN (Xb (r:=XG) 4 rfl (λ_ s=>s.r)) (Xb (r:=XG) 1 rfl (λ_ s=>s.l.l.l.r)))) (Xk (K:=K) (VO (Xb (r:=(rV (rV Xd))) 3 rfl (λ_ s=>s.l.r)) (Xb (r:=(rV (rV Xd))) 0 rfl (λ_ s=>s.l.l.l.l.r)))))) (Xu (EvS.ev (EvB.sh (YQ false)))) (Yg (Xk (K:=K) (VO (Zt (o:=(oEi (oF (rP2 XG Xz)) (oT2 (oF XG) (oL (oL (oF Xd)))))) 2 1 rfl rfl (λ_ s=>s.l.l.r)) (DC (o:=(rP2 XG Xz)) (Ev.toB (QW (EvS.ev (EvB.sh (Yr _))) λ_=>(EvS.ev (XF (r:=(rV (rV Xd))) 0 rfl (λ_ s=>s.l.l.l.l.r)))))))) (Xu (EvS.ev (EvB.sh (YQ false)))) (G0 (K:=K) (λ_ s=>s.l.l.r) λb50=>(Bj (K:=K) (λ_ s=>s.r) λv51=>(Dr (K:=K) (mt:=λa55=>(Rs.bind (Rs.bind (Rs.ok a55) λx58=>(noE (X3 x58))) λx59=>(Rs.ok (!x59)))) (f:=λa54=>(Rs.bind (Rs.ok a54) λx69=>(Rs.bind (Rs.bind (Rs.ok a_0) λx63=>(JK x63 (λa61=>(Rs.bind (Rs.ok a61) λx64=>(Rs.bind (Rs.bind (Rs.bind (Rs.ok (0:Int)) λx67=>(Rs.bind (Rs.ok []) λx68=>(Rs.ok (x67::x68)))) λx66=>(chk (x66.length<=sizeLine) (Rs.ok x66))) λx65=>(Cy x64 x65)))))) λx70=>(Rs.ok (decide (x69=x70)))))) 5 1 0 (Dq 2 rfl (λ_ s=>s.l.r)) (Nat.le_of_ble_eq_true rfl) rfl (λ_ s=>s.r) (λa55 v56=>(YA (Qk (K:=K) (Ev.toB (XX (Xb (r:=(rV Xd)) 5 rfl (λ_ s=>s.r))))))) λC52 w53=>(Xu (EvS.ev (EvB.sh (UQ (DY (o:=(oL (oL (oF Xd)))) 1 (Dq 2 rfl (λ_ s=>s.l.l.r)) rfl (λ_ s=>s.r)) (Ev.toB (YT (λ_=>tg1 0) (XI (XF (r:=(rV (rV Xd))) 0 rfl (λ_ s=>s.l.l.l.l.l.l.l.l.r))) (λC60 a61 v62=>(KR (EvS.ls (XF (r:=(rV Xd)) 0 rfl (λ_ s=>s.r))) (Ev.ls (Zv (Xl (EvB.sh (Xe 0)) YF)))))))))))))))))))))
theorem Qm:FnScope ["_law_way","_law_line","_law_found","e","_law_other"] ["_law_way","_law_line"] (Xi U8):=⟨rfl,rfl,rfl,by decide+kernel,rfl,by decide+kernel,by decide+kernel⟩
theorem CU (D:Def K mg "_law_read" U8 ["_law_way","_law_line"])(g_read_table:FnX P w K mg base 2 "read_table" ["line"] (DM mg XG (oL (oL (oF Xd))) Yj K))(g_read_colours:FnX P w K mg base 2 "read_colours" ["line"] (DM mg XG (oL (oF Xd)) XV K))(Y:Ecs XB K mg)(Z:Blt mg):Fn P w K mg base 3 "_law_read" ["_law_way","_law_line"] (sp2 (rC 1) XG (oEi (oF (rP2 XG Xz)) (oT2 (oF XG) (oL (oF Xd)))) Qw K):=by
  refine Zf D Qm (λvs H Q E h=>?_) (λf cdv A outer s H vs Q E hr h=>?_)
  . obtain⟨v_0,v_1,a_0,a_1,b,rfl,_⟩:=h;rfl
  obtain⟨v_0,v_1,a_0,a_1,b,rfl,h_0,h_1,hm,q⟩:=h
  obtain⟨C_PlaitError,h_PlaitError,q_PlaitError⟩:=Y.adr "PlaitError" (.head _)
  obtain⟨C_TooBig,h_TooBig,q_TooBig⟩:=Y.adr "TooBig" (.tail _ (.head _))
  obtain⟨C_NoFit,h_NoFit,q_NoFit⟩:=Y.adr "NoFit" (.tail _ (.tail _ (.head _)))
  obtain⟨C_NoLine,h_NoLine,q_NoLine⟩:=Y.adr "NoLine" (.tail _ (.tail _ (.tail _ (.head _))))
  have hu:=hu8 hr
  have hu1:=YJ hr
  refine⟨_,(Xa (Be rfl rfl rfl rfl h_PlaitError Qm.nd (i:=3) rfl rfl rfl (λpn xe E hp=>(Xa (X9 (Xm Zi (pv 0) Xg (Xv _))
        (Xa (Xy (i:=2) Qm.nd rfl (Or.inl rfl) (Vb g_read_table hr (by decide) hp (Xc (pv 1) Xh)))
        Xf)
        (Xa (Xy (i:=2) Qm.nd rfl (Or.inl rfl) (Vb g_read_colours hr (by decide) hp (Xc (pv 1) Xh)))
        Xf))
      Xf))
     (λpn a o C hm hc=>(Xa (Xy (i:=4) Qm.nd rfl (Or.inl rfl) (Ho (Xt (ZT rfl hm hc rfl) rfl Z.b_isinstance PyProof.Rows.boot_isinstance (Xc (pv 3) (Xc (Z8 (v:=V.ref C_TooBig) rfl h_TooBig rfl) Xh))) (Q8 (Xt (ZT rfl hm hc rfl) rfl Z.b_isinstance PyProof.Rows.boot_isinstance (Xc (pv 3) (Xc (Z8 (v:=V.ref C_NoFit) rfl h_NoFit rfl) Xh))))))
      (Xa (Xs (QN (Xc YC (Xc (V2 (Xt (ZT rfl hm hc rfl) rfl Z.b_isinstance PyProof.Rows.boot_isinstance (Xc (pv 3) (Xc (Z8 (v:=V.ref C_NoLine) rfl h_NoLine rfl) Xh))) (Q8 (FC (pv 4)))) Xh))))
      Xf))))
    (Xa (Xs (QN (Xc YC (Xc (pv 2) Xh))))
    Xf)),?_⟩
  refine Y1 (S:=(SC.add (SC.add SC.nil K (rC 1) v_0 a_0) K XG v_1 a_1)) (σ:=[some v_0,some v_1,none,none,none]) 1 ?_ (SC.i (SC.i SC.t h_0) h_1) hm q rfl
  unfold Qw
  exact(DS (mc:=(Rs.bind (Rs.bind (Rs.ok a_0) λ_=>Rs.ok (1:Int)) λx8=>(Rs.bind (Rs.ok (0:Int)) λx9=>(Rs.ok (decide (x8=x9)))))) (o1:=(oL (oF Xd))) (K:=K) (d:="PlaitError") (N:=5) (i:=3) Y (.head _) h_PlaitError 2 0 (λ_=>(Xk (K:=K) (Yo (Bx (Xb (r:=(rC 1)) 0 rfl (λ_ s=>s.l.r))) (Xe 0)))) rfl (λ_=>(Qc (Xb (r:=XG) 1 rfl (λ_ s=>s.r)))) (Nat.le_of_ble_eq_true rfl) (λa10 v11 C12=>(Xu (Bn (QW (EvS.ev (EvB.sh (Yr _))) λ_=>(Y5 (o:=(oL (oF Xd))) 2 1 rfl rfl (λ_ s=>s.r)))))) (λx1 hx C a hC=>(XO (K:=K) (r:=Xz) 4 (EvB.sh (Fz (Qv 3 rfl (Y.att _ hx C hC) (Y.kit _ hx "TooBig" (.tail _ (.head _)) C C_TooBig hC h_TooBig)) (Qv 3 rfl (Y.att _ hx C hC) (Y.kit _ hx "NoFit" (.tail _ (.tail _ (.head _))) C C_NoFit hC h_NoFit)))) λa2 v3=>(Xu (Bp (EvS.ev (QU (EvB.sh (Yr _)) (EvB.sh (Qh (Qv 3 rfl (Y.att _ hx C hC) (Y.kit _ hx "NoLine" (.tail _ (.tail _ (.tail _ (.head _)))) C C_NoLine hC h_NoLine)) (Vl (Xb (r:=Xz) 4 rfl (λ_ s=>s.r))))))))))))
theorem YX:FnScope ["_law_numbers","_law_handed","_law_told","_law_found"] ["_law_numbers"] (Xi Zk):=⟨rfl,rfl,rfl,by decide+kernel,rfl,by decide+kernel,by decide+kernel⟩
theorem Vh (D:Def K mg "_law_of_colours" Zk ["_law_numbers"])(g_show_colours:Fn P w K mg base 1 "show_colours" ["colours"] (sp1 (rV Xd) (oF XG) XN K))(g_read1:Fn P w K mg base 3 "_law_read" ["_law_way","_law_line"] (sp2 (rC 1) XG (oEi (oF (rP2 XG Xz)) (oT2 (oF XG) (oL (oF Xd)))) Qw K))(g_words:Fn P w K mg base 1 "_law_words" ["_law_numbers"] (sp1 (rV Xd) (oF XG) Zu K))(g_is_wholes:Fn P w K mg base 2 "_law_is_wholes" ["_law_found"] (sp1 (rV Xd) (oF Xz) X3 K))(Y:Ecs XB K mg)(Z:Blt mg):Fn P w K mg base 4 "_law_of_colours" ["_law_numbers"] (sp1 (rV Xd) (oF Xz) Ym K):=by
 refine Zf D YX (λvs H Q E h=>?_) (λf cdv A outer s H vs Q E hr h=>?_)
 ·obtain⟨v_0,a_0,b,rfl,_⟩:=h;rfl
 obtain⟨v_0,a_0,b,rfl,h_0,hm,q⟩:=h
 have hu:=hu8 hr
 have hu1:=YJ hr
 refine⟨_,(Xa (Xy (i:=1) YX.nd rfl (Or.inl rfl) (YR (YZ K rfl) rfl Z.b_list PyProof.Rows.boot_list (Xc (pv 0) Xh)))
  (Xa (Xy (i:=2) YX.nd rfl (Or.inl rfl) (Yh g_show_colours hr (by decide) (Xc (pv 1) Xh)))
  (Xa (X9 (PW.pt (UL (Zn (Zx (Xt Zg rfl Z.b_isinstance PyProof.Rows.boot_isinstance (Xc (pv 2) (Xc (Q6 (v:=V.ty "str") rfl Z.b_str PyProof.Rows.boot_str rfl) Xh))))) (Q7 (Xm Gz (pv 2) (Yh g_words hr (by decide) (Xc (pv 0) Xh)) (Xv _)))))
   (Xa (Xs ZH)
   Xf)
   Xf)
  (Xa (Xy (i:=3) YX.nd rfl (Or.inl rfl) (Yh g_read1 hr (by decide) (Xc Xg (Xc (pv 2) Xh))))
  (Xa (X9 (Xm (K3 (Fi eq_int) (UX (by decide) hu)) (pv 1) (pv 0) (Xv _))
   (Xa (Xs ZH)
   Xf)
   Xf)
  (Xa (X9 (Xm U7 (Xt (Xx K rfl) rfl Z.b_len PySem.boot_len (Xc (Y0 (sc:=(Xi Zk)) (N0:=["_law_numbers","_law_handed","_law_told","_law_found"]) (tns:=["_law_one"]) (caps:=[]) rfl (XQ (K:=K) rfl (pv 0)) (YH (by decide)) (λcl C s H ex E=>⟨XH (i:=0) (show List.Nodup (["_law_one"]:List Str) by decide+kernel) rfl (Or.inl rfl),(BS (Xm Ex (Xt Vj rfl Z.b_abs PyProof.Rows.boot_abs (Xc (pv 0) Xh)) (Xn JB Xg Xg) (Xv _))),(pv 0)⟩)) Xh)) Xg (Xv _))
   (Xa (Xs (VY (G5 (KZ ((UO QO Cj).up (by decide)) (UO (QO.up (by decide)) (Fi eq_int)) ((K5 QO (Km (r:=Xz) (q:=(rV Xd)) rfl rfl)).up (by decide))) (UX (by decide) hu)) (pv 3) (QN (Xc YC (Xc ZH Xh))) (Xv _)))
   Xf)
   Xf)
  (Xa (X9 (PW.pt (UL (Xm (K3 (KZ ((UO QO Cj).up (by decide)) (UO (QO.up (by decide)) (Fi eq_int)) ((K5 QO (Km (r:=Xz) (q:=(rV Xd)) rfl rfl)).up (by decide))) (UX (by decide) hu)) (pv 3) (QN (Xc YC (Xc (pv 0) Xh))) (Xv _)) (Q7 (Zn (Zx (Yh g_is_wholes hr (by decide) (Xc (X0 (VV K rfl) (pv 3) Xg (λ_ _=>rfl)) Xh)))))))
   (Xa (Xs ZH)
   Xf)
   Xf)
  (Xa (Yz (Z9 PySem.F.plainAttrs_list PySem.F.slot_list_append PySem.F.type_list_append XZ (X0 (VV K rfl) (pv 3) Xg (λ_ _=>rfl)) (Xc Xg Xh)))
  (Xa (Xs ZH)
  Xf))))))))),?_⟩
 refine Y1 (S:=(SC.add SC.nil K (rV Xd) v_0 a_0)) (σ:=[some v_0,none,none,none]) 1 ?_ (SC.i SC.t h_0) hm q rfl
 unfold Ym
 exact(XO (K:=K) (r:=(rV Xd)) 1 (Ev.sh (VP (EvS.ls (XF (r:=(rV Xd)) 0 rfl (λ_ s=>s.r))))) λa1 v2=>(XO (K:=K) (r:=XG) 2 (EvB.sh (Ev.toB (XX (Xb (r:=(rV Xd)) 1 rfl (λ_ s=>s.r))))) λa4 v5=>(Yg (QG (YA (Qk (K:=K) (Zw "str" true (QY K "str") (Xb (r:=XG) 2 rfl (λ_ s=>s.r))))) (Xk (K:=K) (JN (Xb (r:=XG) 2 rfl (λ_ s=>s.r)) (Ev.toB (XX (Xb (r:=(rV Xd)) 0 rfl (λ_ s=>s.l.l.r))))))) (Xu (EvS.ev (EvB.sh (YQ false)))) (YL (K:=K) (o:=(oEi (oF (rP2 XG Xz)) (oT2 (oF XG) (oL (oF Xd))))) 3 0 (Yt (Hl 1) (Xb (r:=XG) 2 rfl (λ_ s=>s.r))) (Nat.le_of_ble_eq_true rfl) λa15 v16 C17=>(Yg (Xk (K:=K) (VO (Xb (r:=(rV Xd)) 1 rfl (λ_ s=>s.l.l.r)) (Xb (r:=(rV Xd)) 0 rfl (λ_ s=>s.l.l.l.r)))) (Xu (EvS.ev (EvB.sh (YQ false)))) (Yg (Xk (K:=K) (Jb (YG (Ev.toB (DV (λ_=>tg1 0) (XI (XF (r:=(rV Xd)) 0 rfl (λ_ s=>s.l.l.l.r))) (λC24 a25 v26=>(Xk (K:=K) (Dd (UR (Xb (r:=Xd) 0 rfl (λ_ s=>s.r))) (Z3 (Xe 10) (Xe 18))))) (λC24 a25 v26=>(EvS.ev (XF (r:=Xd) 0 rfl (λ_ s=>s.r))))))) (Xe 0))) (Xu (EvS.ev (EvB.sh (UQ (Zt (o:=(oEi (oF (rP2 XG Xz)) (oT2 (oF XG) (oL (oF Xd))))) 3 0 rfl rfl (λ_ s=>s.r)) (F9 (p:=(rP2 XG (rV Xd))) (Ev.toB (EvS.ev (QU (EvB.sh (Yr _)) (EvB.sh (YQ true)))))))))) (Yg (QG (Xk (K:=K) (VO (Zt (o:=(oEi (oF (rP2 XG Xz)) (oT2 (oF XG) (oL (oF Xd))))) 3 0 rfl rfl (λ_ s=>s.r)) (DC (o:=(rP2 XG Xz)) (Ev.toB (QW (EvS.ev (EvB.sh (Yr _))) λ_=>(EvS.ev (XF (r:=(rV Xd)) 0 rfl (λ_ s=>s.l.l.l.r)))))))) (YA (Qk (K:=K) (Ev.toB (XX (BW (Cg (Zt (o:=(oEi (oF (rP2 XG Xz)) (oT2 (oF XG) (oL (oF Xd))))) 3 0 rfl rfl (λ_ s=>s.r))))))))) (Xu (EvS.ev (EvB.sh (YQ false)))) (G0 (K:=K) (λ_ s=>s.r) λb52=>(Bj (K:=K) (λ_ s=>s.r) λv53=>(B4 (K:=K) (o:=(oF Xd)) (f:=λa56=>(Rs.ok true)) 0 (Dq 3 rfl (λ_ s=>s.l.r)) rfl rfl (λ_ s=>s.r) (EvS.ev (EvB.sh (Xe 1))) λa54 C55=>(Xu (EvS.ev (EvB.sh (YQ true))))))))))))))
theorem V7:FnScope ["_law_size","_law_some","_law_table_here","_law_a","_law_line","_law_b"] ["_law_size","_law_some"] (Xi B6):=⟨rfl,rfl,rfl,by decide+kernel,rfl,by decide+kernel,by decide+kernel⟩
theorem EY (D:Def K mg "_law_any" B6 ["_law_size","_law_some"])(Y:Ecs XB K mg)(Z:Blt mg):Fn P w K mg base 1 "_law_any" ["_law_size","_law_some"] (sp2 Xd (rV Xd) (oL (oL (oF Xd))) Gu K):=by
 refine Zf D V7 (λvs H Q E h=>?_) (λf cdv A outer s H vs Q E hr h=>?_)
 ·obtain⟨v_0,v_1,a_0,a_1,b,rfl,_⟩:=h;rfl
 obtain⟨v_0,v_1,a_0,a_1,b,rfl,h_0,h_1,hm,q⟩:=h
 have hu:=hu8 hr
 have hu1:=YJ hr
 refine⟨_,(Xa (Xy (i:=2) V7.nd rfl (Or.inl rfl) (Ye Xh))
  (Xa (Zo PassesOwn.never rfl (YB rfl Z.b_range (Xc (pv 0) Xh)) (XH (i:=3) V7.nd rfl (Or.inl rfl))
   (Xa (Xy (i:=4) V7.nd rfl (Or.inl rfl) (Ye Xh))
   (Xa (Zo PassesOwn.never rfl (YB rfl Z.b_range (Xc (pv 0) Xh)) (XH (i:=5) V7.nd rfl (Or.inl rfl))
    (Xa (Yz (Z9 PySem.F.plainAttrs_list PySem.F.slot_list_append PySem.F.type_list_append XZ (pv 4) (Xc (Xn Yd (Xn Yp (X0 (Xo K rfl) (pv 1) (Xn Yd (Xn Yp (pv 3) (Xn YD Xg (pv 5))) Xg) (λ_ _=>rfl)) (Xn YD (pv 3) (pv 5))) (pv 0)) Xh)))
    Xf))
   (Xa (Yz (Z9 PySem.F.plainAttrs_list PySem.F.slot_list_append PySem.F.type_list_append XZ (pv 2) (Xc (pv 4) Xh)))
   Xf))))
  (Xa (Xs (pv 2))
  Xf))),?_⟩
 refine Y1 (S:=(SC.add (SC.add SC.nil K Xd v_0 a_0) K (rV Xd) v_1 a_1)) (σ:=[some v_0,some v_1,none,none,none,none]) 2 ?_ (SC.i (SC.i SC.t h_0) h_1) hm q rfl
 unfold Gu
 exact(YL (K:=K) (o:=(oL (oL (oF Xd)))) 2 0 (VT (o:=(oL (oF Xd)))) (Nat.le_of_ble_eq_true rfl) λa1 v2 C3=>(Z1 (K:=K) (J:=({oo:=λx5=>[x5.2.2.2.2,[]],ss:=λx5=>[some v_0,some v_1,some x5.2.2.2.1,x5.1,x5.2.1,x5.2.2.1],sc:=λg6 x5=>(SC.addO (SC.add (SC.add SC.nil K Xd v_0 a_0) K (rV Xd) v_1 a_1) K (oL (oL (oF Xd))) x5.2.2.2.1 g6 x5.2.2.2.2)}:Jn ((List (List Int))) (Option V×Option V×Option V×V×List Xr))) (λ_=>tg1 3) ((none),(none),(none),v2,C3) (a1) (X5 (Xb (r:=Xd) 0 rfl (λ_ s=>s.l.l.r))) rfl rfl (λ_ s=>(SC.i (SC.i (SC.i SC.t s.l.l.r) s.l.r) s.r)) (λg7 x8 a9 v10=>(YL (K:=K) (o:=(oL (oF Xd))) 4 1 (VT (o:=(oF Xd))) (Nat.le_of_ble_eq_true rfl) λa11 v12 C13=>(Z1 (K:=K) (J:=({oo:=λx15=>[x8.2.2.2.2,x15.2.2],ss:=λx15=>[some v_0,some v_1,some x8.2.2.2.1,some v10,some x15.2.1,x15.1],sc:=λg16 x15=>(SC.addO (SC.add (SC.addO (SC.add (SC.add SC.nil K Xd v_0 a_0) K (rV Xd) v_1 a_1) K (oL (oL (oF Xd))) x8.2.2.2.1 g7 x8.2.2.2.2) K Xd v10 a9) K (oL (oF Xd)) x15.2.1 g16 x15.2.2)}:Jn ((List Int)) (Option V×V×List Xr))) (λ_=>tg1 5) ((x8.2.2.1),v12,C13) (a11) (X5 (Xb (r:=Xd) 0 rfl (λ_ s=>s.l.l.l.l.r))) rfl rfl (λ_ s=>(SC.i (SC.i (SC.i (SC.i (SC.i SC.t s.l.l.l.l.r) s.l.l.l.r) s.l.l.r) s.l.r) s.r)) (λg17 x18 a19 v20=>(QE (K:=K) (o:=(oF Xd)) (f:=λa37=>(Rs.ok (a37))) 4 1 rfl rfl rfl (λ_ s=>s.l.r) (EvS.ev (EvB.sh (XM (XU (XL (Xb (r:=(rV Xd)) 1 rfl (λ_ s=>s.l.l.l.l.r)) (XM (XU (Xb (r:=Xd) 3 rfl (λ_ s=>s.l.l.r)) (Yb (Xe 3) (Xb (r:=Xd) 5 rfl (λ_ s=>s.r)))) (Xe 12))) (Yb (Xb (r:=Xd) 3 rfl (λ_ s=>s.l.l.r)) (Xb (r:=Xd) 5 rfl (λ_ s=>s.r)))) (Xb (r:=Xd) 0 rfl (λ_ s=>s.l.l.l.l.l.r))))) λa35 C36=>(XJ (J:=_) ((some v20),x18.2.1,C36) ((g17++[a35])) rfl rfl (λ_ s=>(SC.i (SC.i (SC.i (SC.i (SC.i SC.t s.l.l.l.l.l.l.r) s.l.l.l.l.l.r) s.l.l.l.l.r) s.l.l.l.r) s.r))))) λg38 x39=>(QE (K:=K) (o:=(oL (oF Xd))) (f:=λa42=>(Rs.ok (a42))) 2 0 rfl rfl rfl (λ_ s=>s.l.l.r) (Y5 (o:=(oL (oF Xd))) 4 1 rfl rfl (λ_ s=>s.r)) λa40 C41=>(XJ (J:=_) ((some v10),(some x39.2.1),(x39.1),x8.2.2.2.1,C41) ((g7++[a40])) rfl rfl (λ_ s=>(SC.i (SC.i (SC.i SC.t s.l.l.l.l.l.r) s.l.l.l.l.r) s.r))))))) λg44 x45=>(Xu (Y5 (o:=(oL (oL (oF Xd)))) 2 0 rfl rfl (λ_ s=>s.r)))))
theorem Zl:FnScope ["_law_table_here","_law_some","_law_size","_law_found","_law_line"] ["_law_table_here","_law_some"] (Xi ZE):=⟨rfl,rfl,rfl,by decide+kernel,rfl,by decide+kernel,by decide+kernel⟩
theorem UM (D:Def K mg "_law_otherwise" ZE ["_law_table_here","_law_some"])(Y:Ecs XB K mg)(Z:Blt mg):Fn P w K mg base 1 "_law_otherwise" ["_law_table_here","_law_some"] (sp2 (rV (rV Xd)) (rV Xd) (oL (oL (oF Xd))) YI K):=by
 refine Zf D Zl (λvs H Q E h=>?_) (λf cdv A outer s H vs Q E hr h=>?_)
 ·obtain⟨v_0,v_1,a_0,a_1,b,rfl,_⟩:=h;rfl
 obtain⟨v_0,v_1,a_0,a_1,b,rfl,h_0,h_1,hm,q⟩:=h
 have hu:=hu8 hr
 have hu1:=YJ hr
 refine⟨_,(Xa (Xy (i:=2) Zl.nd rfl (Or.inl rfl) (Xt (Xx K rfl) rfl Z.b_len PySem.boot_len (Xc (pv 0) Xh)))
  (Xa (Ki 3 (Xi ZE) ["_law_table_here","_law_some","_law_size","_law_found","_law_line"] ["_law_line"] [] rfl Zl.nd rfl rfl (XQ (K:=K) rfl (pv 0)) (YH (by decide)) (λcl C s H ex E=>⟨XH (i:=0) (show List.Nodup (["_law_line"]:List Str) by decide+kernel) rfl (Or.inl rfl),YV,(YR (YZ K rfl) rfl Z.b_list PyProof.Rows.boot_list (Xc (pv 0) Xh))⟩))
  (Xa (Xy (i:=4) Zl.nd rfl (Or.inl rfl) (X0 (Xo K rfl) (pv 3) (Xn Yd (X0 (Xo K rfl) (pv 1) Xg (λ_ _=>rfl)) (pv 2)) (λ_ _=>rfl)))
  (Xa (X9 (Xm Zi (X0 (Xo K rfl) (pv 1) Xg (λ_ _=>rfl)) Xg (Xv _))
   (Xa (DH (Xn Zj (Xn Yp (pv 2) (X0 (Xo K rfl) (pv 1) Xg (λ_ _=>rfl))) Xg) (DB (pv 4) (Xn Yd (X0 (Xo K rfl) (pv 1) Xg (λ_ _=>rfl)) (pv 2)) VI))
   Xf)
   Xf)
  (Xa (X9 (Xm Zi (X0 (Xo K rfl) (pv 1) Xg (λ_ _=>rfl)) Xg (Xv _))
   (Xa (Yz (Z9 PySem.F.plainAttrs_list PySem.F.slot_list_append PySem.F.type_list_append XZ (pv 4) (Xc Xg Xh)))
   Xf)
   Xf)
  (Xa (X9 (Xm Zi (X0 (Xo K rfl) (pv 1) Xg (λ_ _=>rfl)) Xg (Xv _))
   (Xa (DH (Xn Zj (Hi Bg Xg) (X0 (Xo K rfl) (pv 1) Xg (λ_ _=>rfl))) (DB (pv 4) (Xn Yd (X0 (Xo K rfl) (pv 1) Xg (λ_ _=>rfl)) (pv 2)) VI))
   Xf)
   Xf)
  (Xa (X9 (PW.pt (ZI (Xm Zi (X0 (Xo K rfl) (pv 1) Xg (λ_ _=>rfl)) Xg (Xv _)) (QB (Xm U7 (pv 2) Xg (Xv _)))))
   (Xa (Yz (Ba PySem.F.plainAttrs_list PySem.F.slot_list_pop PySem.F.type_list_pop EM (pv 4)))
   Xf)
   Xf)
  (Xa (Xs (pv 3))
  Xf)))))))),?_⟩
 refine Y1 (S:=(SC.add (SC.add SC.nil K (rV (rV Xd)) v_0 a_0) K (rV Xd) v_1 a_1)) (σ:=[some v_0,some v_1,none,none,none]) 2 ?_ (SC.i (SC.i SC.t h_0) h_1) hm q rfl
 unfold YI
 exact(XO (K:=K) (r:=Xd) 2 (EvB.sh (YG (Xb (r:=(rV (rV Xd))) 0 rfl (λ_ s=>s.l.r)))) λa1 v2=>(YL (K:=K) (o:=(oL (oL (oF Xd)))) 3 0 (YT (λ_=>tg1 0) (XI (XF (r:=(rV (rV Xd))) 0 rfl (λ_ s=>s.l.l.r))) (λC7 a8 v9=>(VP (EvS.ls (XF (r:=(rV Xd)) 0 rfl (λ_ s=>s.r)))))) (Nat.le_of_ble_eq_true rfl) λa4 v5 C6=>(C9 (K:=K) (r:=Xd) 3 0 4 rfl rfl (λ_ s=>s.r) (XM (XL (Xb (r:=(rV Xd)) 1 rfl (λ_ s=>s.l.l.r)) (Xe 1)) (Xb (r:=Xd) 2 rfl (λ_ s=>s.l.r))) λk16 v17=>(ZC (J:=({oo:=λy=>[y,[]],ss:=λy=>[some v_0,some v_1,some v2,some v5,some v17],sc:=λg y=>(SC.add (SC.addO (SC.add (SC.add (SC.add SC.nil K (rV (rV Xd)) v_0 a_0) K (rV Xd) v_1 a_1) K Xd v2 a1) K (oL (oL (oF Xd))) v5 g y) K (rAl y) v17 k16)}:Jn (List (List Int)) (List Xr))) (Qj (Fd:=FNd ({oo:=λy=>[y,[]],ss:=λy=>[some v_0,some v_1,some v2,some v5,some v17],sc:=λg y=>(SC.add (SC.addO (SC.add (SC.add (SC.add SC.nil K (rV (rV Xd)) v_0 a_0) K (rV Xd) v_1 a_1) K Xd v2 a1) K (oL (oL (oF Xd))) v5 g y) K (rAl y) v17 k16)}:Jn (List (List Int)) (List Xr))) (Xk (K:=K) (Yo (XL (Xb (r:=(rV Xd)) 1 rfl (λ_ s=>s.l.l.l.r)) (Xe 0)) (Xe 0))) (KW (K:=K) (r:=Xd) (f:=λa24=>(Rs.ok a24)) 4 0 rfl rfl (λ_ s=>s.l.r) (λ_ s=>s.r) (EvB.sh (Yy (XU (Xb (r:=Xd) 2 rfl (λ_ s=>s.l.l.r)) (XL (Xb (r:=(rV Xd)) 1 rfl (λ_ s=>s.l.l.l.r)) (Xe 3))) (Xe 1))) (XM (XL (Xb (r:=(rV Xd)) 1 rfl (λ_ s=>s.l.l.l.r)) (Xe 2)) (Xb (r:=Xd) 2 rfl (λ_ s=>s.l.l.r))) λa24 C25=>(XJ (J:=_) C25 a24 rfl rfl (λ_ s=>(SC.i (SC.i (SC.i (SC.i (SC.i SC.t s.l.l.l.l.l.l.r) s.l.l.l.l.l.r) s.l.l.l.l.r) s.l.r) s.r)))) (XJ (J:=_) C6 a4 rfl rfl (λ_ s=>(SC.i (SC.i (SC.i (SC.i (SC.i SC.t s.l.l.l.l.r) s.l.l.l.r) s.l.l.r) s.l.r) s.r)))) λg40 x41=>(ZC (J:=({oo:=λy=>[y,[]],ss:=λy=>[some v_0,some v_1,some v2,some v5,some v17],sc:=λg y=>(SC.add (SC.addO (SC.add (SC.add (SC.add SC.nil K (rV (rV Xd)) v_0 a_0) K (rV Xd) v_1 a_1) K Xd v2 a1) K (oL (oL (oF Xd))) v5 g y) K (rAl y) v17 k16)}:Jn (List (List Int)) (List Xr))) (Qj (Fd:=FNd ({oo:=λy=>[y,[]],ss:=λy=>[some v_0,some v_1,some v2,some v5,some v17],sc:=λg y=>(SC.add (SC.addO (SC.add (SC.add (SC.add SC.nil K (rV (rV Xd)) v_0 a_0) K (rV Xd) v_1 a_1) K Xd v2 a1) K (oL (oL (oF Xd))) v5 g y) K (rAl y) v17 k16)}:Jn (List (List Int)) (List Xr))) (Xk (K:=K) (Yo (XL (Xb (r:=(rV Xd)) 1 rfl (λ_ s=>s.l.l.l.r)) (Xe 0)) (Xe 1))) (CC (K:=K) (r:=Xd) (f:=λa47=>(Rs.ok a47)) 4 0 rfl rfl (λ_ s=>s.l.r) (λ_ s=>s.r) (EvB.sh (Xe 0)) λa47 C48=>(XJ (J:=_) C48 a47 rfl rfl (λ_ s=>(SC.i (SC.i (SC.i (SC.i (SC.i SC.t s.l.l.l.l.l.l.r) s.l.l.l.l.l.r) s.l.l.l.l.r) s.l.r) s.r)))) (XJ (J:=_) x41 g40 rfl rfl (λ_ s=>(SC.i (SC.i (SC.i (SC.i (SC.i SC.t s.l.l.l.l.r) s.l.l.l.r) s.l.l.r) s.l.r) s.r)))) λg53 x54=>(ZC (J:=({oo:=λy=>[y,[]],ss:=λy=>[some v_0,some v_1,some v2,some v5,some v17],sc:=λg y=>(SC.add (SC.addO (SC.add (SC.add (SC.add SC.nil K (rV (rV Xd)) v_0 a_0) K (rV Xd) v_1 a_1) K Xd v2 a1) K (oL (oL (oF Xd))) v5 g y) K (rAl y) v17 k16)}:Jn (List (List Int)) (List Xr))) (Qj (Fd:=FNd ({oo:=λy=>[y,[]],ss:=λy=>[some v_0,some v_1,some v2,some v5,some v17],sc:=λg y=>(SC.add (SC.addO (SC.add (SC.add (SC.add SC.nil K (rV (rV Xd)) v_0 a_0) K (rV Xd) v_1 a_1) K Xd v2 a1) K (oL (oL (oF Xd))) v5 g y) K (rAl y) v17 k16)}:Jn (List (List Int)) (List Xr))) (Xk (K:=K) (Yo (XL (Xb (r:=(rV Xd)) 1 rfl (λ_ s=>s.l.l.l.r)) (Xe 0)) (Xe 2))) (KW (K:=K) (r:=Xd) (f:=λa60=>(Rs.ok a60)) 4 0 rfl rfl (λ_ s=>s.l.r) (λ_ s=>s.r) (EvB.sh (Yy (F5 (Xe 1)) (XL (Xb (r:=(rV Xd)) 1 rfl (λ_ s=>s.l.l.l.r)) (Xe 3)))) (XM (XL (Xb (r:=(rV Xd)) 1 rfl (λ_ s=>s.l.l.l.r)) (Xe 2)) (Xb (r:=Xd) 2 rfl (λ_ s=>s.l.l.r))) λa60 C61=>(XJ (J:=_) C61 a60 rfl rfl (λ_ s=>(SC.i (SC.i (SC.i (SC.i (SC.i SC.t s.l.l.l.l.l.l.r) s.l.l.l.l.l.r) s.l.l.l.l.r) s.l.r) s.r)))) (XJ (J:=_) x54 g53 rfl rfl (λ_ s=>(SC.i (SC.i (SC.i (SC.i (SC.i SC.t s.l.l.l.l.r) s.l.l.l.r) s.l.l.r) s.l.r) s.r)))) λg75 x76=>(ZC (J:=({oo:=λy=>[y,[]],ss:=λy=>[some v_0,some v_1,some v2,some v5,some v17],sc:=λg y=>(SC.add (SC.addO (SC.add (SC.add (SC.add SC.nil K (rV (rV Xd)) v_0 a_0) K (rV Xd) v_1 a_1) K Xd v2 a1) K (oL (oL (oF Xd))) v5 g y) K (rAl y) v17 k16)}:Jn (List (List Int)) (List Xr))) (Qj (Fd:=FNd ({oo:=λy=>[y,[]],ss:=λy=>[some v_0,some v_1,some v2,some v5,some v17],sc:=λg y=>(SC.add (SC.addO (SC.add (SC.add (SC.add SC.nil K (rV (rV Xd)) v_0 a_0) K (rV Xd) v_1 a_1) K Xd v2 a1) K (oL (oL (oF Xd))) v5 g y) K (rAl y) v17 k16)}:Jn (List (List Int)) (List Xr))) (Y8 (Xk (K:=K) (Yo (XL (Xb (r:=(rV Xd)) 1 rfl (λ_ s=>s.l.l.l.r)) (Xe 0)) (Xe 3))) (Xk (K:=K) (Jb (Xb (r:=Xd) 2 rfl (λ_ s=>s.l.l.r)) (Xe 1)))) (GT (K:=K) (r:=Xd) (f:=λa84=>(Rs.ok a84)) 4 0 rfl rfl (λ_ s=>s.l.r) (λ_ s=>s.r) λa84 C85=>(XJ (J:=_) C85 a84 rfl rfl (λ_ s=>(SC.i (SC.i (SC.i (SC.i (SC.i SC.t s.l.l.l.l.l.l.r) s.l.l.l.l.l.r) s.l.l.l.l.r) s.l.r) s.r)))) (XJ (J:=_) x76 g75 rfl rfl (λ_ s=>(SC.i (SC.i (SC.i (SC.i (SC.i SC.t s.l.l.l.l.r) s.l.l.l.r) s.l.l.r) s.l.r) s.r)))) λg90 x91=>(Xu (Y5 (o:=(oL (oL (oF Xd)))) 3 0 rfl rfl (λ_ s=>s.l.r))))))))))
theorem ZG:FnScope ["_law_script","_law_some","_law_table_here","_law_size","_law_more","_law_numbers","_law_sizes","_law_drawn","_law_k","_law_high"] ["_law_script"] (Xi Vq):=⟨rfl,rfl,rfl,by decide+kernel,rfl,by decide+kernel,by decide+kernel⟩
theorem ES {f:Addr}{fd:FuncData}(F:Fun K "law" "law" Vq f fd)(g_row:Fn P w K mg base 2 "_law_row" ["_law_script","_law_place","_law_sizes"] (sp3 (rL Xd) Xd (rV Xd) (oL (oF Xd)) JF K))(g_table:Fn P w K mg base 3 "_law_table" ["_law_script","_law_place","_law_most"] (sp3 (rL Xd) Xd Xd (oL (oL (oF Xd))) Qz K))(g_any:Fn P w K mg base 1 "_law_any" ["_law_size","_law_some"] (sp2 Xd (rV Xd) (oL (oL (oF Xd))) Gu K))(g_of_table:Fn P w K mg base 4 "_law_of_table" ["_law_table_here"] (sp1 (rV (rV Xd)) (oF Xz) Yw K))(g_of_colours:Fn P w K mg base 4 "_law_of_colours" ["_law_numbers"] (sp1 (rV Xd) (oF Xz) Ym K))(g_otherwise:Fn P w K mg base 1 "_law_otherwise" ["_law_table_here","_law_some"] (sp2 (rV (rV Xd)) (rV Xd) (oL (oL (oF Xd))) YI K))(Y:Ecs XB K mg)(Z:Blt mg):FnOk P w K mg base CX0 5 f fd ["_law_script"] (sp1 (rL Xd) (oF Xz) U6 K):=by
 refine F.ok ZG (λvs H Q E h=>?_) (λcdv A outer s H vs Q E hr h=>?_)
 ·obtain⟨v_0,a_0,b,rfl,_⟩:=h;rfl
 obtain⟨v_0,a_0,b,rfl,h_0,hm,q⟩:=h
 have hu:=hu8 hr
 have hu1:=YJ hr
 refine⟨_,(Xa (Xy (i:=1) ZG.nd rfl (Or.inl rfl) (Yh g_row hr (by decide) (Xc (pv 0) (Xc Xg (Xc (Xn Kw (Ye (Xc Xg (Xc Xg (Xc Xg Xh)))) (Xn DJ (Ye (Xc Xg Xh)) Xg)) Xh)))))
  (Xa (Xy (i:=2) ZG.nd rfl (Or.inl rfl) (Yh g_table hr (by decide) (Xc (pv 0) (Xc Xg (Xc Xg Xh)))))
  (Xa (Xy (i:=3) ZG.nd rfl (Or.inl rfl) (Xt (Xx K rfl) rfl Z.b_len PySem.boot_len (Xc (pv 2) Xh)))
  (Xa (X9 (Xm Zi (X0 (Xo K rfl) (pv 1) Xg (λ_ _=>rfl)) Xg (Xv _))
   (Xa (Xy (i:=3) ZG.nd rfl (Or.inl rfl) (Xn Yp Xg (X0 (Xo K rfl) (pv 1) Xg (λ_ _=>rfl))))
   Xf)
   Xf)
  (Xa (X9 (PW.pt (UL (Xm Zi (X0 (Xo K rfl) (pv 1) Xg (λ_ _=>rfl)) Xg (Xv _)) (Q7 (Xm Zi (X0 (Xo K rfl) (pv 1) Xg (λ_ _=>rfl)) Xg (Xv _)))))
   (Xa (Xy (i:=2) ZG.nd rfl (Or.inl rfl) (Yh g_any hr (by decide) (Xc (pv 3) (Xc (QV (VW K rfl) (pv 1) (Vy Xg) Vn) Xh))))
   Xf)
   Xf)
  (Xa (Xy (i:=4) ZG.nd rfl (Or.inl rfl) (Yh g_row hr (by decide) (Xc (pv 0) (Xc Xg (Xc (Ye (Xc Xg (Xc Xg (Xc Xg (Xc Xg Xh))))) Xh Qb)))))
  (Xa (Xy (i:=5) ZG.nd rfl (Or.inl rfl) (Ye Xh))
  (Xa (Xy (i:=6) ZG.nd rfl (Or.inl rfl) (Xn Kw (Ye (Xc Xg Xh)) (Xn DJ (Ye (Xc Xg (Xc Xg (Xc (Xn JB Xg Xg) Xh)))) Xg)))
  (Xa (Xy (i:=7) ZG.nd rfl (Or.inl rfl) (Yh g_row hr (by decide) (Xc (pv 0) (Xc Xg (Xc (pv 6) Xh)))))
  (Xa (Zo PassesOwn.never rfl (YB rfl Z.b_range (Xc (X0 (Xo K rfl) (pv 7) Xg (λ_ _=>rfl)) Xh)) (XH (i:=8) ZG.nd rfl (Or.inl rfl))
   (Xa (Xy (i:=9) ZG.nd rfl (Or.inl rfl) (Xn Yd (X0 (Xo K rfl) (pv 7) (Xn Yp (Xn YD Xg (pv 8)) Xg) (λ_ _=>rfl)) (X0 (Xo K rfl) (Ye (Xc Xg (Xc (Xn JB Xg Xg) (Xc (Xn JB Xg Xg) (Xc (Xn JB Xg Xg) Xh))))) (X0 (Xo K rfl) (pv 7) (Xn Yp (Xn YD Xg (pv 8)) Xg) (λ_ _=>rfl)) (λ_ _=>rfl))))
   (Xa (Yz (Z9 PySem.F.plainAttrs_list PySem.F.slot_list_append PySem.F.type_list_append XZ (pv 5) (Xc (Xn YD (pv 9) (Xn Zj (Xn YD Xg (X0 (Xo K rfl) (pv 7) (Xn Yp (Xn YD Xg (pv 8)) Xg) (λ_ _=>rfl))) Xg)) Xh)))
   Xf)))
  (Xa (X9 (PW.pt (UL (Zn (Zx (Yh g_of_table hr (by decide) (Xc (pv 2) Xh)))) (Q7 (Zn (Zx (Yh g_of_colours hr (by decide) (Xc (pv 5) Xh)))))))
   (Xa (Xs ZH)
   Xf)
   Xf)
  (Xa (X9 (Zn (Zx (Yh g_of_table hr (by decide) (Xc (Yh g_otherwise hr (by decide) (Xc (pv 2) (Xc (pv 4) Xh))) Xh))))
   (Xa (Xs ZH)
   Xf)
   Xf)
  (Xa (Xs (V2 (Yh g_of_table hr (by decide) (Xc (pv 2) Xh)) (Q8 (Yh g_of_colours hr (by decide) (Xc (pv 5) Xh)))))
  Xf))))))))))))),?_⟩
 refine Y1 (S:=(SC.add SC.nil K (rL Xd) v_0 a_0)) (σ:=[some v_0,none,none,none,none,none,none,none,none,none]) 1 ?_ (SC.i SC.t h_0) hm q rfl
 unfold U6
 exact(XO (K:=K) (r:=(rV Xd)) 1 (Ev.sh (ZS (Xb (r:=(rL Xd)) 0 rfl (λ_ s=>s.r)) (Xe 1) (Ev.toB (KR (Ev.ls (Zv (Xl (EvB.sh (Xe 2)) (Xl (EvB.sh (Xe 8)) (Xl (EvB.sh (Xe 7)) YF))))) (Ev.ls (F6 (Ev.ls (Zv (Xl (EvB.sh (Xe 24)) YF))) (Xe 12))))))) λa1 v2=>(XO (K:=K) (r:=(rV (rV Xd))) 2 (Ev.sh (ZS (Xb (r:=(rL Xd)) 0 rfl (λ_ s=>s.l.r)) (Xe 0) (Xe 12))) λa21 v22=>(XO (K:=K) (r:=Xd) 3 (EvB.sh (YG (Xb (r:=(rV (rV Xd))) 2 rfl (λ_ s=>s.r)))) λa27 v28=>(ZC (J:=({oo:=λx35=>[[]],ss:=λx35=>[some v_0,some v2,some v22,some x35,none,none,none,none,none,none],sc:=λg36 x35=>(SC.add (SC.add (SC.add (SC.add SC.nil K (rL Xd) v_0 a_0) K (rV Xd) v2 a1) K (rV (rV Xd)) v22 a21) K Xd x35 g36)}:Jn (Int) (V))) (Qj (Fd:=FNd ({oo:=λx35=>[[]],ss:=λx35=>[some v_0,some v2,some v22,some x35,none,none,none,none,none,none],sc:=λg36 x35=>(SC.add (SC.add (SC.add (SC.add SC.nil K (rL Xd) v_0 a_0) K (rV Xd) v2 a1) K (rV (rV Xd)) v22 a21) K Xd x35 g36)}:Jn (Int) (V))) (Xk (K:=K) (Yo (XL (Xb (r:=(rV Xd)) 1 rfl (λ_ s=>s.l.l.r)) (Xe 1)) (Xe 7))) (XO (K:=K) (r:=Xd) 3 (EvB.sh (XU (Xe 20) (XL (Xb (r:=(rV Xd)) 1 rfl (λ_ s=>s.l.l.r)) (Xe 2)))) λa37 v38=>(XJ (J:=_) (v38) (a37) rfl rfl (λ_ s=>(SC.i (SC.i (SC.i (SC.i SC.t s.l.l.l.l.r) s.l.l.l.r) s.l.l.r) s.r)))) (XJ (J:=_) (v28) (a27) rfl rfl (λ_ s=>(SC.i (SC.i (SC.i (SC.i SC.t s.l.l.l.r) s.l.l.r) s.l.r) s.r)))) λg44 x43=>(ZC (J:=({oo:=λx54=>[[]],ss:=λx54=>[some v_0,some v2,some x54,some x43,none,none,none,none,none,none],sc:=λg55 x54=>(SC.add (SC.add (SC.add (SC.add SC.nil K (rL Xd) v_0 a_0) K (rV Xd) v2 a1) K Xd x43 g44) K (rV (rV Xd)) x54 g55)}:Jn ((List (List Int))) (V))) (Qj (Fd:=FNd ({oo:=λx54=>[[]],ss:=λx54=>[some v_0,some v2,some x54,some x43,none,none,none,none,none,none],sc:=λg55 x54=>(SC.add (SC.add (SC.add (SC.add SC.nil K (rL Xd) v_0 a_0) K (rV Xd) v2 a1) K Xd x43 g44) K (rV (rV Xd)) x54 g55)}:Jn ((List (List Int))) (V))) (QG (Xk (K:=K) (Yo (XL (Xb (r:=(rV Xd)) 1 rfl (λ_ s=>s.l.l.r)) (Xe 0)) (Xe 0))) (Xk (K:=K) (Yo (XL (Xb (r:=(rV Xd)) 1 rfl (λ_ s=>s.l.l.r)) (Xe 1)) (Xe 7)))) (XO (K:=K) (r:=(rV (rV Xd))) 2 (Ev.sh (Yt (Xb (r:=Xd) 3 rfl (λ_ s=>s.r)) (Ev.toB (Kt (EvS.ls (XF (r:=(rV Xd)) 1 rfl (λ_ s=>s.l.l.r))) (Q1 (K:=K) (Xe 3)) QS)))) λa56 v57=>(XJ (J:=_) (v57) (a56) rfl rfl (λ_ s=>(SC.i (SC.i (SC.i (SC.i SC.t s.l.l.l.l.r) s.l.l.l.r) s.l.r) s.r)))) (XJ (J:=_) (v22) (a21) rfl rfl (λ_ s=>(SC.i (SC.i (SC.i (SC.i SC.t s.l.l.l.r) s.l.l.r) s.r) s.l.r)))) λg66 x65=>(XO (K:=K) (r:=(rV Xd)) 4 (Ev.sh (ZS (Xb (r:=(rL Xd)) 0 rfl (λ_ s=>s.l.l.l.r)) (Xe 2) (Ev.toB (Zv (Xl (EvB.sh (Xe 6)) (Xl (EvB.sh (Xe 24)) (Xl (EvB.sh (Xe 24)) (Xl (EvB.sh (Xe 3)) YF)))))))) λa67 v68=>(YL (K:=K) (o:=(oL (oF Xd))) 5 0 (VT (o:=(oF Xd))) (Nat.le_of_ble_eq_true rfl) λa82 v83 C84=>(XO (K:=K) (r:=(rV Xd)) 6 (Ev.sh (KR (Ev.ls (Zv (Xl (EvB.sh (Xe 21)) YF))) (Ev.ls (F6 (Ev.ls (Zv (Xl (EvB.sh (Xe 4)) (Xl (EvB.sh (Xe 2)) (Xl (EvB.sh (Z3 (Xe 10) (Xe 59))) YF))))) (Xe 20))))) λa85 v86=>(XO (K:=K) (r:=(rV Xd)) 7 (Ev.sh (ZS (Xb (r:=(rL Xd)) 0 rfl (λ_ s=>s.l.l.l.l.l.l.r)) (Xe 3) (Xb (r:=(rV Xd)) 6 rfl (λ_ s=>s.r)))) λa103 v104=>(Z1 (K:=K) (J:=({oo:=λx112=>[x112.2.2.2],ss:=λx112=>[some v_0,some v2,some x65,some x43,some v68,some x112.2.2.1,some v86,some v104,x112.1,x112.2.1],sc:=λg113 x112=>(SC.addO (SC.add (SC.add (SC.add (SC.add (SC.add (SC.add (SC.add SC.nil K (rL Xd) v_0 a_0) K (rV Xd) v2 a1) K Xd x43 g44) K (rV (rV Xd)) x65 g66) K (rV Xd) v68 a67) K (rV Xd) v86 a85) K (rV Xd) v104 a103) K (oL (oF Xd)) x112.2.2.1 g113 x112.2.2.2)}:Jn ((List Int)) (Option V×Option V×V×List Xr))) (λ_=>tg1 8) ((none),(none),v83,C84) (a82) (X5 (XL (Xb (r:=(rV Xd)) 7 rfl (λ_ s=>s.r)) (Xe 0))) rfl rfl (λ_ s=>(SC.i (SC.i (SC.i (SC.i (SC.i (SC.i (SC.i (SC.i SC.t s.l.l.l.l.l.l.l.r) s.l.l.l.l.l.l.r) s.l.l.l.l.l.r) s.l.l.l.l.r) s.l.l.l.r) s.l.r) s.r) s.l.l.r)) (λg114 x115 a116 v117=>(XO (K:=K) (r:=Xd) 9 (EvB.sh (XM (XL (Xb (r:=(rV Xd)) 7 rfl (λ_ s=>s.l.l.r)) (XU (Yb (Xe 3) (Xb (r:=Xd) 8 rfl (λ_ s=>s.r))) (Xe 3))) (XL (Ev.toB (Zv (Xl (EvB.sh (Xe 10)) (Xl (EvB.sh (Z3 (Xe 10) (Xe 6))) (Xl (EvB.sh (Z3 (Xe 10) (Xe 18))) (Xl (EvB.sh (Z3 (Xe 10) (Xe 59))) YF)))))) (XL (Xb (r:=(rV Xd)) 7 rfl (λ_ s=>s.l.l.r)) (XU (Yb (Xe 3) (Xb (r:=Xd) 8 rfl (λ_ s=>s.r))) (Xe 1)))))) λa118 v119=>(QE (K:=K) (o:=(oF Xd)) (f:=λa165=>(Rs.ok (a165))) 5 0 rfl rfl rfl (λ_ s=>s.l.l.r) (EvS.ev (EvB.sh (Yb (Xb (r:=Xd) 9 rfl (λ_ s=>s.r)) (Yy (Yb (Xe 2) (XL (Xb (r:=(rV Xd)) 7 rfl (λ_ s=>s.l.l.l.r)) (XU (Yb (Xe 3) (Xb (r:=Xd) 8 rfl (λ_ s=>s.l.r))) (Xe 2)))) (Xe 1))))) λa163 C164=>(XJ (J:=_) ((some v117),(some v119),x115.2.2.1,C164) ((g114++[a163])) rfl rfl (λ_ s=>(SC.i (SC.i (SC.i (SC.i (SC.i (SC.i (SC.i (SC.i SC.t s.l.l.l.l.l.l.l.l.l.l.r) s.l.l.l.l.l.l.l.l.l.r) s.l.l.l.l.l.l.l.l.r) s.l.l.l.l.l.l.l.r) s.l.l.l.l.l.l.r) s.l.l.l.l.l.r) s.l.l.l.l.r) s.r)))))) λg166 x167=>(Yg (QG (YA (Qk (K:=K) (Ev.toB (XX (Xb (r:=(rV (rV Xd))) 2 rfl (λ_ s=>s.l.l.l.l.r)))))) (YA (Qk (K:=K) (Ev.toB (XX (Zt (o:=(oL (oF Xd))) 5 0 rfl rfl (λ_ s=>s.r))))))) (Xu (EvS.ev (EvB.sh (YQ false)))) (Yg (YA (Qk (K:=K) (Ev.toB (XX (Ev.toB (Yt (Xb (r:=(rV (rV Xd))) 2 rfl (λ_ s=>s.l.l.l.l.r)) (Xb (r:=(rV Xd)) 4 rfl (λ_ s=>s.l.l.l.r)))))))) (Xu (EvS.ev (EvB.sh (YQ false)))) (Xu (EvS.ev (EvB.sh (Qh (Ev.toB (XX (Xb (r:=(rV (rV Xd))) 2 rfl (λ_ s=>s.l.l.l.l.r)))) (Ev.toB (XX (Zt (o:=(oL (oF Xd))) 5 0 rfl rfl (λ_ s=>s.r))))))))))))))))))))
end
theorem GH {K:PySem.W.Frag}{mg:Str->Option Value}{h:Heap}(X:K.In h)(G:h.Ns mainGlobals mg){x p0:Str}{st:Stmt}{f:Addr}{oc:Value}{od an:Option Addr}{osl:Array (Option Value)}{kV doc pm cdv ct:Value}(hb:∀(kV doc pm:Value) (an:Option Addr) (cdv ct u0:Value),bindArgs (PySem.W.fnOf x x (Yx st) (Yi st) (Xi st) .none kV doc pm an cdv ct) ⟨[u0],[]⟩=pure ([p0].zip [u0]))(a:PySem.W.nsIn K mainGlobals x=some (some (.ref f)))(l:K.lookup f=some ⟨oc,od, .func (PySem.W.fnOf x x (Yx st) (Yi st) (Xi st) .none kV doc pm an cdv ct),osl⟩)(c:PySem.W.codeIn K cdv x=true)(k:PySem.W.keepIn K (.ref f)=true):Def K mg x st [p0]:=⟨f,_,Qf l c k,(Qf l c k).binds λ_ _ _ _ _ _ us hl=>(by obtain⟨_,rfl⟩:=HC hl;exact hb ..),PySem.W.mg_of X G a⟩
theorem DQ {K:PySem.W.Frag}{mg:Str->Option Value}{h:Heap}(X:K.In h)(G:h.Ns mainGlobals mg){x p0 p1:Str}{st:Stmt}{f:Addr}{oc:Value}{od an:Option Addr}{osl:Array (Option Value)}{kV doc pm cdv ct:Value}(hb:∀(kV doc pm:Value) (an:Option Addr) (cdv ct u0 u1:Value),bindArgs (PySem.W.fnOf x x (Yx st) (Yi st) (Xi st) .none kV doc pm an cdv ct) ⟨[u0,u1],[]⟩=pure ([p0,p1].zip [u0,u1]))(a:PySem.W.nsIn K mainGlobals x=some (some (.ref f)))(l:K.lookup f=some ⟨oc,od, .func (PySem.W.fnOf x x (Yx st) (Yi st) (Xi st) .none kV doc pm an cdv ct),osl⟩)(c:PySem.W.codeIn K cdv x=true)(k:PySem.W.keepIn K (.ref f)=true):Def K mg x st [p0,p1]:=⟨f,_,Qf l c k,(Qf l c k).binds λ_ _ _ _ _ _ us hl=>(by obtain⟨_,_,rfl⟩:=Hj hl;exact hb ..),PySem.W.mg_of X G a⟩
theorem Ir {K:PySem.W.Frag}{mg:Str->Option Value}{h:Heap}(X:K.In h)(G:h.Ns mainGlobals mg){x p0 p1 p2:Str}{st:Stmt}{f:Addr}{oc:Value}{od an:Option Addr}{osl:Array (Option Value)}{kV doc pm cdv ct:Value}(hb:∀(kV doc pm:Value) (an:Option Addr) (cdv ct u0 u1 u2:Value),bindArgs (PySem.W.fnOf x x (Yx st) (Yi st) (Xi st) .none kV doc pm an cdv ct) ⟨[u0,u1,u2],[]⟩=pure ([p0,p1,p2].zip [u0,u1,u2]))(a:PySem.W.nsIn K mainGlobals x=some (some (.ref f)))(l:K.lookup f=some ⟨oc,od, .func (PySem.W.fnOf x x (Yx st) (Yi st) (Xi st) .none kV doc pm an cdv ct),osl⟩)(c:PySem.W.codeIn K cdv x=true)(k:PySem.W.keepIn K (.ref f)=true):Def K mg x st [p0,p1,p2]:=⟨f,_,Qf l c k,(Qf l c k).binds λ_ _ _ _ _ _ us hl=>(by obtain⟨_,_,_,rfl⟩:=HA hl;exact hb ..),PySem.W.mg_of X G a⟩
theorem IU {K:PySem.W.Frag}{mg:Str->Option Value}{h:Heap}(X:K.In h)(G:h.Ns mainGlobals mg){x p0 p1 p2 p3 p4:Str}{st:Stmt}{f:Addr}{oc:Value}{od an:Option Addr}{osl:Array (Option Value)}{kV doc pm cdv ct:Value}(hb:∀(kV doc pm:Value) (an:Option Addr) (cdv ct u0 u1 u2 u3 u4:Value),bindArgs (PySem.W.fnOf x x (Yx st) (Yi st) (Xi st) .none kV doc pm an cdv ct) ⟨[u0,u1,u2,u3,u4],[]⟩=pure ([p0,p1,p2,p3,p4].zip [u0,u1,u2,u3,u4]))(a:PySem.W.nsIn K mainGlobals x=some (some (.ref f)))(l:K.lookup f=some ⟨oc,od, .func (PySem.W.fnOf x x (Yx st) (Yi st) (Xi st) .none kV doc pm an cdv ct),osl⟩)(c:PySem.W.codeIn K cdv x=true)(k:PySem.W.keepIn K (.ref f)=true):Def K mg x st [p0,p1,p2,p3,p4]:=⟨f,_,Qf l c k,(Qf l c k).binds λ_ _ _ _ _ _ us hl=>(by obtain⟨_,_,_,_,_,rfl⟩:=HV hl;exact hb ..),PySem.W.mg_of X G a⟩
theorem EK {l:PySem.W.OpenLaw}{w:World}{K:PySem.W.Frag}{h:Heap}{mg:Str->Option Value}{fa f E0 E1 E2 E3:Addr}{tk0:Tok}{tk1:Tok}(X:K.In h)(G:h.Ns mainGlobals mg)(hfa:mg "law" =some (.ref fa)){od an:Option Addr}{sl:Array (Option Value)}{oc kV dc pm cd ct:Value}
  (D1:Def K mg "all_colours" YY ["numbers","size"])
  (D2:Def K mg "show_table" Zp ["table"])
  (D3:Def K mg "show_colours" YO ["colours"])
  (D4:Def K mg "words_of" QD ["line"])
  (D5:Def K mg "read_number" ZF ["word"])
  (D6:Def K mg "read_table" Zr ["line"])
  (D7:Def K mg "read_colours" YN ["line"])
  (D8:Def K mg "_law_cell" GO ["_law_script","_law_place"])
  (D9:Def K mg "_law_mix" Ed ["_law_cell_here","_law_k"])
  (D10:Def K mg "_law_row" El ["_law_script","_law_place","_law_sizes"])
  (D11:Def K mg "_law_cell_of" Jw ["_law_way","_law_size","_law_factor","_law_a","_law_b"])
  (D12:Def K mg "_law_common" Vr ["_law_one","_law_other"])
  (D13:Def K mg "_law_made" Ko ["_law_way","_law_size","_law_factor"])
  (D14:Def K mg "_law_ordered" Jh ["_law_some","_law_count"])
  (D15:Def K mg "_law_relaid" QX ["_law_some","_law_spots"])
  (D16:Def K mg "_law_table" Kl ["_law_script","_law_place","_law_most"])
  (D17:Def K mg "_law_is_whole" Qy ["_law_one"])
  (D18:Def K mg "_law_is_wholes" Z7 ["_law_found"])
  (D19:Def K mg "_law_words" Vw ["_law_numbers"])
  (D20:Def K mg "_law_read" Dt ["_law_way","_law_line"])
  (D21:Def K mg "_law_is_table" Qx ["_law_table_here"])
  (D22:Def K mg "_law_of_table" Y4 ["_law_table_here"])
  (D23:Def K mg "_law_of_colours" Zk ["_law_numbers"])
  (D24:Def K mg "_law_any" B6 ["_law_size","_law_some"])
  (D25:Def K mg "_law_otherwise" ZE ["_law_table_here","_law_some"])
  (D27:Def K mg "_law_read" U8 ["_law_way","_law_line"])
  (a:PySem.W.nsIn K mainGlobals "law" =some (some (.ref f)))(l0:K.lookup f=some ⟨oc,od, .func (PySem.W.fnOf "law" "law" (Yx Vq) (Yi Vq) (Xi Vq) .none kV dc pm an cd ct),sl⟩)(c:PySem.W.codeIn K cd "law" =true)(k:PySem.W.keepIn K (.ref f)=true)
  (z1:PySem.W.nsIn K mainGlobals "abs" =some none)
  (z2:PySem.W.nsIn K mainGlobals "all" =some none)
  (z3:PySem.W.nsIn K mainGlobals "bool" =some none)
  (z4:PySem.W.nsIn K mainGlobals "int" =some none)
  (z5:PySem.W.nsIn K mainGlobals "isinstance" =some none)
  (z6:PySem.W.nsIn K mainGlobals "len" =some none)
  (z7:PySem.W.nsIn K mainGlobals "list" =some none)
  (z8:PySem.W.nsIn K mainGlobals "range" =some none)
  (z9:PySem.W.nsIn K mainGlobals "str" =some none)
  (w0:PySem.W.nsIn K mainGlobals "MOST_COLOURS" =some (some (.int 24 tk0)))
  (w1:PySem.W.nsIn K mainGlobals "MOST_FIGURES" =some (some (.int 18 tk1)))
  (x0:PySem.W.nsIn K mainGlobals "PlaitError" =some (some (.ref E0)))
  (x1:PySem.W.nsIn K mainGlobals "TooBig" =some (some (.ref E1)))
  (x2:PySem.W.nsIn K mainGlobals "NoFit" =some (some (.ref E2)))
  (x3:PySem.W.nsIn K mainGlobals "NoLine" =some (some (.ref E3)))
  (yg:PySem.W.specialIn K (.builtin "object.__class__") "__get__" =some (some (.builtin "getset_descriptor.__get__")))
  (yt:PySem.W.takesIn K (.builtin "object.__class__")=some true)
  (ya0:PySem.W.excIn K E0 vEr "ValueError.__new__" =true)
  (yb0:PySem.W.findIn K (.ref E0) "__getattribute__" =some (some (.builtin "BaseException.__getattribute__")))
  (yc0:PySem.W.findIn K (.ref E0) "__getattr__" =some none)
  (yd0:PySem.W.findIn K (.ref E0) "__class__" =some (some (.builtin "object.__class__")))
  (ye0:PySem.W.mroIn K E0 (.type "object")=some true)
  (yf0:PySem.W.isClsIn K E0=true)
  (yh0:PySem.W.mroIn K E0 (.type "BaseException")=some true)
  (yi0:PySem.W.subIn K (.ref E0) (.type "ValueError")=some true)
  (yj0:PySem.W.typeIn K (.ref E0)=some (.type "type"))
  (yk0:PySem.W.subIn K (.ref E0) (.type "BaseException")=some true)
  (ya1:PySem.W.excIn K E1 vEr "ValueError.__new__" =true)
  (yb1:PySem.W.findIn K (.ref E1) "__getattribute__" =some (some (.builtin "BaseException.__getattribute__")))
  (yc1:PySem.W.findIn K (.ref E1) "__getattr__" =some none)
  (yd1:PySem.W.findIn K (.ref E1) "__class__" =some (some (.builtin "object.__class__")))
  (ye1:PySem.W.mroIn K E1 (.type "object")=some true)
  (yf1:PySem.W.isClsIn K E1=true)
  (yh1:PySem.W.mroIn K E1 (.type "BaseException")=some true)
  (yi1:PySem.W.subIn K (.ref E1) (.type "ValueError")=some true)
  (yj1:PySem.W.typeIn K (.ref E1)=some (.type "type"))
  (yk1:PySem.W.subIn K (.ref E1) (.type "BaseException")=some true)
  (ya2:PySem.W.excIn K E2 vEr "ValueError.__new__" =true)
  (yb2:PySem.W.findIn K (.ref E2) "__getattribute__" =some (some (.builtin "BaseException.__getattribute__")))
  (yc2:PySem.W.findIn K (.ref E2) "__getattr__" =some none)
  (yd2:PySem.W.findIn K (.ref E2) "__class__" =some (some (.builtin "object.__class__")))
  (ye2:PySem.W.mroIn K E2 (.type "object")=some true)
  (yf2:PySem.W.isClsIn K E2=true)
  (yh2:PySem.W.mroIn K E2 (.type "BaseException")=some true)
  (yi2:PySem.W.subIn K (.ref E2) (.type "ValueError")=some true)
  (yj2:PySem.W.typeIn K (.ref E2)=some (.type "type"))
  (yk2:PySem.W.subIn K (.ref E2) (.type "BaseException")=some true)
  (ya3:PySem.W.excIn K E3 vEr "ValueError.__new__" =true)
  (yb3:PySem.W.findIn K (.ref E3) "__getattribute__" =some (some (.builtin "BaseException.__getattribute__")))
  (yc3:PySem.W.findIn K (.ref E3) "__getattr__" =some none)
  (yd3:PySem.W.findIn K (.ref E3) "__class__" =some (some (.builtin "object.__class__")))
  (ye3:PySem.W.mroIn K E3 (.type "object")=some true)
  (yf3:PySem.W.isClsIn K E3=true)
  (yh3:PySem.W.mroIn K E3 (.type "BaseException")=some true)
  (yi3:PySem.W.subIn K (.ref E3) (.type "ValueError")=some true)
  (yj3:PySem.W.typeIn K (.ref E3)=some (.type "type"))
  (yk3:PySem.W.subIn K (.ref E3) (.type "BaseException")=some true)
  (yl0_0:PySem.W.subIn K (.ref E0) (.ref E0)=some true)
  (yl0_1:PySem.W.subIn K (.ref E0) (.ref E1)=some false)
  (yl0_2:PySem.W.subIn K (.ref E0) (.ref E2)=some false)
  (yl0_3:PySem.W.subIn K (.ref E0) (.ref E3)=some false)
  (yl1_0:PySem.W.subIn K (.ref E1) (.ref E0)=some true)
  (yl1_1:PySem.W.subIn K (.ref E1) (.ref E1)=some true)
  (yl1_2:PySem.W.subIn K (.ref E1) (.ref E2)=some false)
  (yl1_3:PySem.W.subIn K (.ref E1) (.ref E3)=some false)
  (yl2_0:PySem.W.subIn K (.ref E2) (.ref E0)=some true)
  (yl2_1:PySem.W.subIn K (.ref E2) (.ref E1)=some false)
  (yl2_2:PySem.W.subIn K (.ref E2) (.ref E2)=some true)
  (yl2_3:PySem.W.subIn K (.ref E2) (.ref E3)=some false)
  (yl3_0:PySem.W.subIn K (.ref E3) (.ref E0)=some true)
  (yl3_1:PySem.W.subIn K (.ref E3) (.ref E1)=some false)
  (yl3_2:PySem.W.subIn K (.ref E3) (.ref E2)=some false)
  (yl3_3:PySem.W.subIn K (.ref E3) (.ref E3)=some true)
  :∃fd:FuncData,(∀(s:Shared) (v:Value),BindsTo s fd ⟨[v],[]⟩ [("_law_script",v)])/\∀base:Heap,K.In base->base.Ns mainGlobals mg->FnOk l.prog w K mg base CX0 5 fa fd ["_law_script"] (sp1 (rL Xd) (oF Xz) U6 K):=by
 have e:=hfa.symm.trans (PySem.W.mg_of X G a)
 cases e
 have N:∀{x:Str},PySem.W.nsIn K mainGlobals x=some none->mg x=none:=λz=>PySem.W.mg_none_of X G z
 have pz0:Qq "PlaitError" =true:=by decide
 have er0:=KN yb0 yc0 yd0 ye0 yf0 yh0 yg yt
 have iz0_0:YK "PlaitError" "PlaitError" =true:=by decide
 have kx0_0:=ZZ yl0_0 yl0_0 yf0 yj0 yk0
 have iz0_1:YK "PlaitError" "TooBig" =false:=by decide
 have kx0_1:=ZZ yl0_0 yl0_1 yf1 yj1 yk1
 have iz0_2:YK "PlaitError" "NoFit" =false:=by decide
 have kx0_2:=ZZ yl0_0 yl0_2 yf2 yj2 yk2
 have iz0_3:YK "PlaitError" "NoLine" =false:=by decide
 have kx0_3:=ZZ yl0_0 yl0_3 yf3 yj3 yk3
 have pz1:Qq "TooBig" =true:=by decide
 have er1:=KN yb1 yc1 yd1 ye1 yf1 yh1 yg yt
 have iz1_0:YK "TooBig" "PlaitError" =true:=by decide
 have kx1_0:=ZZ yl1_1 yl1_0 yf0 yj0 yk0
 have iz1_1:YK "TooBig" "TooBig" =true:=by decide
 have kx1_1:=ZZ yl1_1 yl1_1 yf1 yj1 yk1
 have iz1_2:YK "TooBig" "NoFit" =false:=by decide
 have kx1_2:=ZZ yl1_1 yl1_2 yf2 yj2 yk2
 have iz1_3:YK "TooBig" "NoLine" =false:=by decide
 have kx1_3:=ZZ yl1_1 yl1_3 yf3 yj3 yk3
 have pz2:Qq "NoFit" =true:=by decide
 have er2:=KN yb2 yc2 yd2 ye2 yf2 yh2 yg yt
 have iz2_0:YK "NoFit" "PlaitError" =true:=by decide
 have kx2_0:=ZZ yl2_2 yl2_0 yf0 yj0 yk0
 have iz2_1:YK "NoFit" "TooBig" =false:=by decide
 have kx2_1:=ZZ yl2_2 yl2_1 yf1 yj1 yk1
 have iz2_2:YK "NoFit" "NoFit" =true:=by decide
 have kx2_2:=ZZ yl2_2 yl2_2 yf2 yj2 yk2
 have iz2_3:YK "NoFit" "NoLine" =false:=by decide
 have kx2_3:=ZZ yl2_2 yl2_3 yf3 yj3 yk3
 have pz3:Qq "NoLine" =true:=by decide
 have er3:=KN yb3 yc3 yd3 ye3 yf3 yh3 yg yt
 have iz3_0:YK "NoLine" "PlaitError" =true:=by decide
 have kx3_0:=ZZ yl3_3 yl3_0 yf0 yj0 yk0
 have iz3_1:YK "NoLine" "TooBig" =false:=by decide
 have kx3_1:=ZZ yl3_3 yl3_1 yf1 yj1 yk1
 have iz3_2:YK "NoLine" "NoFit" =false:=by decide
 have kx3_2:=ZZ yl3_3 yl3_2 yf2 yj2 yk2
 have iz3_3:YK "NoLine" "NoLine" =true:=by decide
 have kx3_3:=ZZ yl3_3 yl3_3 yf3 yj3 yk3
 have y0:Eh K [("PlaitError",E0),("TooBig",E1),("NoFit",E2),("NoLine",E3)]=true:=by
  unfold Eh
  simp only[List.all_cons,List.all_nil,Bool.and_true,Bool.and_self,beq_self_eq_true,Bool.not_true,Bool.not_false,Bool.false_or,Bool.true_or,pz0,ya0,er0,Vu yi0,pz1,ya1,er1,Vu yi1,pz2,ya2,er2,Vu yi2,pz3,ya3,er3,Vu yi3,iz0_0,kx0_0.1,kx0_0.2,iz0_1,kx0_1.1,kx0_1.2,iz0_2,kx0_2.1,kx0_2.2,iz0_3,kx0_3.1,kx0_3.2,iz1_0,kx1_0.1,kx1_0.2,iz1_1,kx1_1.1,kx1_1.2,iz1_2,kx1_2.1,kx1_2.2,iz1_3,kx1_3.1,kx1_3.2,iz2_0,kx2_0.1,kx2_0.2,iz2_1,kx2_1.1,kx2_1.2,iz2_2,kx2_2.1,kx2_2.2,iz2_3,kx2_3.1,kx2_3.2,iz3_0,kx3_0.1,kx3_0.2,iz3_1,kx3_1.1,kx3_1.2,iz3_2,kx3_2.1,kx3_2.2,iz3_3,kx3_3.1,kx3_3.2]
 have Y:Ecs XB K mg:=E5 (cs:=[("PlaitError",E0),("TooBig",E1),("NoFit",E2),("NoLine",E3)]) y0 (λp hp=>by
  simp only[List.mem_cons,List.not_mem_nil,or_false] at hp
  rcases hp with rfl |rfl |rfl |rfl
  ·exact PySem.W.mg_of X G x0
  ·exact PySem.W.mg_of X G x1
  ·exact PySem.W.mg_of X G x2
  ·exact PySem.W.mg_of X G x3)
 have Z:Blt mg:=⟨N z1,N z2,N z3,N z4,N z5,N z6,N z7,N z8,N z9,⟨_,PySem.W.mg_of X G w0,_,rfl⟩,⟨_,PySem.W.mg_of X G w1,_,rfl⟩⟩
 refine⟨PySem.W.fnOf "law" "law" (Yx Vq) (Yi Vq) (Xi Vq) .none kV dc pm an cd ct,λs v=>.of_eq rfl,λbase _ _=>?_⟩
 have g_cell:=Ey (P:=l.prog) (w:=w) (base:=base) D8 Y Z
 have g_mix:=HB (P:=l.prog) (w:=w) (base:=base) D9 Y Z
 have g_row:=Hu (P:=l.prog) (w:=w) (base:=base) D10 g_cell g_mix Y Z
 have g_common:=FK (P:=l.prog) (w:=w) (base:=base) D12 Y Z
 have g_cell_of:=Gf (P:=l.prog) (w:=w) (base:=base) D11 Y Z
 have g_made:=Ek (P:=l.prog) (w:=w) (base:=base) D13 g_common g_cell_of Y Z
 have g_relaid:=GL (P:=l.prog) (w:=w) (base:=base) D15 Y Z
 have g_ordered:=Gg (P:=l.prog) (w:=w) (base:=base) D14 Y Z
 have g_table:=CY (P:=l.prog) (w:=w) (base:=base) D16 g_row g_made g_relaid g_ordered Y Z
 have g_any:=EY (P:=l.prog) (w:=w) (base:=base) D24 Y Z
 have g_words_of:=U3 (P:=l.prog) (w:=w) (base:=base) D4 Y Z
 have g_read_number:=JL (P:=l.prog) (w:=w) (base:=base) D5 Y Z
 have g_all_colours:=JJ (P:=l.prog) (w:=w) (base:=base) D1 Y Z
 have g_read_table:=Ve (P:=l.prog) (w:=w) (base:=base) D6 g_words_of g_read_number g_all_colours Y Z
 have g_read_colours:=JA (P:=l.prog) (w:=w) (base:=base) D7 g_read_number g_words_of Y Z
 have g_read:=BR (P:=l.prog) (w:=w) (base:=base) D20 g_read_table g_read_colours Y Z
 have g_show_colours:=Jd (P:=l.prog) (w:=w) (base:=base) D3 Y Z
 have g_show_table:=VC (P:=l.prog) (w:=w) (base:=base) D2 g_show_colours Y Z
 have g_is_table:=UV (P:=l.prog) (w:=w) (base:=base) D21 Y Z
 have g_words:=Cu (P:=l.prog) (w:=w) (base:=base) D19 Y Z
 have g_is_whole:=Kj (P:=l.prog) (w:=w) (base:=base) D17 Y Z
 have g_is_wholes:=UI (P:=l.prog) (w:=w) (base:=base) D18 g_is_whole Y Z
 have g_of_table:=Kf (P:=l.prog) (w:=w) (base:=base) D22 g_read g_show_table g_is_table g_words g_is_wholes Y Z
 have g_read1:=CU (P:=l.prog) (w:=w) (base:=base) D27 g_read_table g_read_colours Y Z
 have g_of_colours:=Vh (P:=l.prog) (w:=w) (base:=base) D23 g_show_colours g_read1 g_words g_is_wholes Y Z
 have g_otherwise:=UM (P:=l.prog) (w:=w) (base:=base) D25 Y Z
 exact ES (P:=l.prog) (w:=w) (base:=base) (Qf (st:=Vq) l0 c k) g_row g_table g_any g_of_table g_of_colours g_otherwise Y Z
theorem IV {l:PySem.W.OpenLaw}{q:Program}{loose:List Str}{XP:(Str->Option Value)->Heap->Prop}{YP:World->Heap->Prop}{d:DefRec}{K:Params->PySem.W.Frag}(hn:l.most=some 63)(hdf:d.params.defaults=[])
  (hY:∀(w:World) (h:Heap),YP w h->(K w.params).In h)
  (F:∀(w:World) (mg:Str->Option Value) (fa:Addr) (h:Heap),(K w.params).In h->h.Ns mainGlobals mg->mg d.name=some (.ref fa)->
   ∃fd:FuncData,(∀(s:Shared) (u:Value),BindsTo s fd ⟨[u],[]⟩ [("_law_script",u)])/\∀base:Heap,(K w.params).In base->base.Ns mainGlobals mg->FnOk l.prog w (K w.params) mg base CX0 5 fa fd ["_law_script"] (sp1 (rL Xd) (oF Xz) U6 (K w.params))):
  PySem.W.WalkO q loose XP YP l.row.toRowW d [] (λf vs=>PySem.call f vs):=
 L2.BG (n:=63) (k:=5) (x:="_law_script") (CX:=λ_=>CX0) (sp:=λw=>sp1 (rL Xd) (oF Xz) U6 (K w.params)) hn (by decide) hdf ⟨rfl,by decide,by decide⟩ hY F (λ_ _ a ns hl _ hS=>⟨.ref a,ns,true,rfl,⟨a,_,rfl,hS,U5 ns⟩,CT ns hl,λv C H' w m ho=>ho.2⟩) λ_ _ _ _ _ z=>z
end My
open PySem PySem.W PyProof.Rows
set_option maxRecDepth 100000 in
set_option maxHeartbeats 0 in
theorem PySem.Challenge.cw_plait_k92_tables_and_colours_holds : PySem.Challenge.rw_plait_k92_tables_and_colours.Holds := by
  w_on; o_law; k_head; (case hw => w_witness2)
  k_fill
  refine My.IV (l := PySem.Challenge.rw_plait_k92_tables_and_colours) rfl rfl (fun w h Y => PySem.W.kIn_of Y) ?F
  case F =>
    intro w mg fa h KX G hmg
    refine' My.EK KX G hmg (My.DQ KX G (by intros; rfl) ?a1 ?l1 ?c1 ?k1) (My.GH KX G (by intros; rfl) ?a2 ?l2 ?c2 ?k2) (My.GH KX G (by intros; rfl) ?a3 ?l3 ?c3 ?k3) (My.GH KX G (by intros; rfl) ?a4 ?l4 ?c4 ?k4) (My.GH KX G (by intros; rfl) ?a5 ?l5 ?c5 ?k5) (My.GH KX G (by intros; rfl) ?a6 ?l6 ?c6 ?k6) (My.GH KX G (by intros; rfl) ?a7 ?l7 ?c7 ?k7) (My.DQ KX G (by intros; rfl) ?a8 ?l8 ?c8 ?k8) (My.DQ KX G (by intros; rfl) ?a9 ?l9 ?c9 ?k9) (My.Ir KX G (by intros; rfl) ?a10 ?l10 ?c10 ?k10) (My.IU KX G (by intros; rfl) ?a11 ?l11 ?c11 ?k11) (My.DQ KX G (by intros; rfl) ?a12 ?l12 ?c12 ?k12) (My.Ir KX G (by intros; rfl) ?a13 ?l13 ?c13 ?k13) (My.DQ KX G (by intros; rfl) ?a14 ?l14 ?c14 ?k14) (My.DQ KX G (by intros; rfl) ?a15 ?l15 ?c15 ?k15) (My.Ir KX G (by intros; rfl) ?a16 ?l16 ?c16 ?k16) (My.GH KX G (by intros; rfl) ?a17 ?l17 ?c17 ?k17) (My.GH KX G (by intros; rfl) ?a18 ?l18 ?c18 ?k18) (My.GH KX G (by intros; rfl) ?a19 ?l19 ?c19 ?k19) (My.DQ KX G (by intros; rfl) ?a20 ?l20 ?c20 ?k20) (My.GH KX G (by intros; rfl) ?a21 ?l21 ?c21 ?k21) (My.GH KX G (by intros; rfl) ?a22 ?l22 ?c22 ?k22) (My.GH KX G (by intros; rfl) ?a23 ?l23 ?c23 ?k23) (My.DQ KX G (by intros; rfl) ?a24 ?l24 ?c24 ?k24) (My.DQ KX G (by intros; rfl) ?a25 ?l25 ?c25 ?k25) (My.DQ KX G (by intros; rfl) ?a27 ?l27 ?c27 ?k27) ?a26 ?l26 ?c26 ?k26 ?z1 ?z2 ?z3 ?z4 ?z5 ?z6 ?z7 ?z8 ?z9 ?w0 ?w1 ?x0 ?x1 ?x2 ?x3 ?yg ?yt ?ya0 ?yb0 ?yc0 ?yd0 ?ye0 ?yf0 ?yh0 ?yi0 ?yj0 ?yk0 ?ya1 ?yb1 ?yc1 ?yd1 ?ye1 ?yf1 ?yh1 ?yi1 ?yj1 ?yk1 ?ya2 ?yb2 ?yc2 ?yd2 ?ye2 ?yf2 ?yh2 ?yi2 ?yj2 ?yk2 ?ya3 ?yb3 ?yc3 ?yd3 ?ye3 ?yf3 ?yh3 ?yi3 ?yj3 ?yk3 ?yl0_0 ?yl0_1 ?yl0_2 ?yl0_3 ?yl1_0 ?yl1_1 ?yl1_2 ?yl1_3 ?yl2_0 ?yl2_1 ?yl2_2 ?yl2_3 ?yl3_0 ?yl3_1 ?yl3_2 ?yl3_3
    (case a1 => k_is); (case l1 => k_is); (case c1 => k_is); (case k1 => k_is); (case a2 => k_is); (case l2 => k_is); (case c2 => k_is); (case k2 => k_is); (case a3 => k_is); (case l3 => k_is); (case c3 => k_is); (case k3 => k_is); (case a4 => k_is); (case l4 => k_is); (case c4 => k_is); (case k4 => k_is); (case a5 => k_is); (case l5 => k_is); (case c5 => k_is); (case k5 => k_is); (case a6 => k_is); (case l6 => k_is); (case c6 => k_is); (case k6 => k_is); (case a7 => k_is); (case l7 => k_is); (case c7 => k_is); (case k7 => k_is); (case a8 => k_is); (case l8 => k_is); (case c8 => k_is); (case k8 => k_is); (case a9 => k_is); (case l9 => k_is); (case c9 => k_is); (case k9 => k_is); (case a10 => k_is); (case l10 => k_is); (case c10 => k_is); (case k10 => k_is); (case a11 => k_is); (case l11 => k_is); (case c11 => k_is); (case k11 => k_is); (case a12 => k_is); (case l12 => k_is); (case c12 => k_is); (case k12 => k_is); (case a13 => k_is); (case l13 => k_is); (case c13 => k_is); (case k13 => k_is); (case a14 => k_is); (case l14 => k_is); (case c14 => k_is); (case k14 => k_is); (case a15 => k_is); (case l15 => k_is); (case c15 => k_is); (case k15 => k_is); (case a16 => k_is); (case l16 => k_is); (case c16 => k_is); (case k16 => k_is); (case a17 => k_is); (case l17 => k_is); (case c17 => k_is); (case k17 => k_is); (case a18 => k_is); (case l18 => k_is); (case c18 => k_is); (case k18 => k_is); (case a19 => k_is); (case l19 => k_is); (case c19 => k_is); (case k19 => k_is); (case a20 => k_is); (case l20 => k_is); (case c20 => k_is); (case k20 => k_is); (case a21 => k_is); (case l21 => k_is); (case c21 => k_is); (case k21 => k_is); (case a22 => k_is); (case l22 => k_is); (case c22 => k_is); (case k22 => k_is); (case a23 => k_is); (case l23 => k_is); (case c23 => k_is); (case k23 => k_is); (case a24 => k_is); (case l24 => k_is); (case c24 => k_is); (case k24 => k_is); (case a25 => k_is); (case l25 => k_is); (case c25 => k_is); (case k25 => k_is); (case a26 => k_is); (case l26 => k_is); (case c26 => k_is); (case k26 => k_is); (case a27 => k_is); (case l27 => k_is); (case c27 => k_is); (case k27 => k_is); (case z1 => k_is); (case z2 => k_is); (case z3 => k_is); (case z4 => k_is); (case z5 => k_is); (case z6 => k_is); (case z7 => k_is); (case z8 => k_is); (case z9 => k_is); (case w0 => k_is); (case w1 => k_is); (case x0 => k_is); (case x1 => k_is); (case x2 => k_is); (case x3 => k_is); (case yg => k_is); (case yt => k_is); (case ya0 => k_exc); (case yb0 => k_is); (case yc0 => k_is); (case yd0 => k_is); (case ye0 => k_is); (case yf0 => k_is); (case yh0 => k_is); (case yi0 => k_is); (case yj0 => k_is); (case yk0 => k_is); (case ya1 => k_exc); (case yb1 => k_is); (case yc1 => k_is); (case yd1 => k_is); (case ye1 => k_is); (case yf1 => k_is); (case yh1 => k_is); (case yi1 => k_is); (case yj1 => k_is); (case yk1 => k_is); (case ya2 => k_exc); (case yb2 => k_is); (case yc2 => k_is); (case yd2 => k_is); (case ye2 => k_is); (case yf2 => k_is); (case yh2 => k_is); (case yi2 => k_is); (case yj2 => k_is); (case yk2 => k_is); (case ya3 => k_exc); (case yb3 => k_is); (case yc3 => k_is); (case yd3 => k_is); (case ye3 => k_is); (case yf3 => k_is); (case yh3 => k_is); (case yi3 => k_is); (case yj3 => k_is); (case yk3 => k_is); (case yl0_0 => k_is); (case yl0_1 => k_is); (case yl0_2 => k_is); (case yl0_3 => k_is); (case yl1_0 => k_is); (case yl1_1 => k_is); (case yl1_2 => k_is); (case yl1_3 => k_is); (case yl2_0 => k_is); (case yl2_1 => k_is); (case yl2_2 => k_is); (case yl2_3 => k_is); (case yl3_0 => k_is); (case yl3_1 => k_is); (case yl3_2 => k_is); (case yl3_3 => k_is)
