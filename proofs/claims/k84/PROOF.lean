import PyProof.Rows.All
import Wide.All
import OpenK.AllK
import Wide.FinOn
import Lean
import PyProof.EqAt
import PyProof.EqKinds
import PyProof.TupleCall
import PySem.Challenge.RW_plait_k84_whole_number_told
set_option Elab.async false
set_option linter.all false
set_option maxRecDepth 100000
namespace PySem.W.Fast
def tw17515322453278888692:=0
def tw14780447173219708111:=0
def tw17944823136080888401:=0
def tw13931040699398286204:=0
def tw5753382216607845081:=0
def tw17907511479087042585:=0
def tw8368096169791195503:=0
def tw2692502545834644680:=0
def tw11760816174075952279:=0
def tw18019216690579194609:=0
def tw2980235899314637931:=0
def tw4311342475876154356:=0
def tw4080181850992143257:=0
def tw2986762030996772779:=0
def tw17741492212454608832:=0
def tw17301301888585402682:=0
def tw7516274573932911509:=0
def tw12899639318328981277:=0
def tw10461588402461832560:=0
def tw12057483668928257264:=0
def tw16372564072155233139:=0
def tw1978723402910425992:=0
def tw17256731605367284371:=0
def tw15313044054336934129:=0
def tw18178183952437732726:=0
def tw8690727707264904986:=0
def tw14820830915062078425:=0
def tw697087166603754167:=0
end PySem.W.Fast
set_option maxHeartbeats 4000000
namespace L2
open PySem PySem.Spec PyProof.Rows
noncomputable abbrev Key:=Sum Int Str
noncomputable def KB:Key->Value->Bool
 | .inl k,v=>Value.isInt k v
 | .inr x,v=>Value.isStrOf x v
noncomputable def OX (w:World):Key->Int
 | .inl k=>hashInt k
 | .inr x=>hashStr w x
theorem YJ:∀{k:Key}{v:Value},KB k v=true->(∃i t,k=Sum.inl i/\v=Value.int i t)∨(∃x t,k=Sum.inr x/\v=Value.str x t)
 | .inl i,v,h=>by
  obtain⟨t,e⟩:=Value.isInt_shape (k:=i) (v:=v) h
  exact .inl ⟨i,t,rfl,e⟩
 | .inr x,v,h=>by
  obtain⟨t,e⟩:=Value.isStrOf_shape (x:=x) (v:=v) h
  exact .inr ⟨x,t,rfl,e⟩
theorem Cr (i:Int)(t:Tok):KB (.inl i) (.int i t)=true:=by simp[KB,Value.isInt]
theorem Bd (x:Str)(t:Tok):KB (.inr x) (.str x t)=true:=by simp[KB,Value.isStrOf]
theorem NG (a b:Int):decide ((Sum.inl a:Key)=Sum.inl b)=(a==b):=by
 by_cases e:a=b
 ·subst e;simp
 ·have h:¬(Sum.inl a:Key)=Sum.inl b:=λq=>e (Sum.inl.inj q)
  rw[decide_eq_false h]
  exact(beq_eq_false_iff_ne.mpr e).symm
theorem MM (a b:Str):decide ((Sum.inr a:Key)=Sum.inr b)=decide (a=b):=by
 by_cases e:a=b
 ·subst e;simp
 ·have h:¬(Sum.inr a:Key)=Sum.inr b:=λq=>e (Sum.inr.inj q)
  rw[decide_eq_false h,decide_eq_false e]
theorem Np (a:Int)(b:Str):decide ((Sum.inl a:Key)=Sum.inr b)=false:=decide_eq_false (λq=>nomatch q)
theorem M8 (a:Str)(b:Int):decide ((Sum.inr a:Key)=Sum.inl b)=false:=decide_eq_false (λq=>nomatch q)
noncomputable def Yn (prog:Program)(w:World):PySem.KeyKind prog w Key where
 is:=KB
 hash:=OX w
 inj:=λv a b ha hb=>by
  rcases YJ ha with⟨i,t,rfl,rfl⟩ | ⟨x,t,rfl,rfl⟩
  ·rcases YJ hb with⟨j,u,rfl,e⟩ | ⟨y,u,rfl,e⟩
   ·injection e with e1 _;rw[e1]
   ·exact nomatch e
  ·rcases YJ hb with⟨j,u,rfl,e⟩ | ⟨y,u,rfl,e⟩
   ·exact nomatch e
   ·injection e with e1 _;rw[e1]
 byValue:=λk v h=>by
  rcases YJ h with⟨i,t,rfl,rfl⟩ | ⟨x,t,rfl,rfl⟩<;> rfl
 pyHash:=λhv h=>by
  rcases YJ hv with⟨i,t,rfl,rfl⟩ | ⟨x,t,rfl,rfl⟩
  ·exact wpAny_pyHash_int h
  ·exact wpAny_pyHash_str h
 eqBool:=λhu hv h=>by
  rcases YJ hu with⟨i,t,rfl,rfl⟩ | ⟨x,t,rfl,rfl⟩
  ·rcases YJ hv with⟨j,u,rfl,rfl⟩ | ⟨y,u,rfl,rfl⟩
   ·rw[NG] at h;exact wpAny_eqBool_int h
   ·rw[Np] at h;exact SeqAt.EqAt.int_str i t y u _ _ _ _ h
  ·rcases YJ hv with⟨j,u,rfl,rfl⟩ | ⟨y,u,rfl,rfl⟩
   ·rw[M8] at h;exact SeqAt.EqAt.str_int x t j u _ _ _ _ h
   ·rw[MM] at h;exact wpAny_eqBool_str h
 «strs»:=λk x t v h=>by
  rcases YJ h with⟨i,u,rfl,e⟩ | ⟨y,u,rfl,e⟩
  ·exact nomatch e
  ·injection e with e1 _
   subst e1
   cases v<;> rfl
theorem Fa (prog:Program)(w:World)(i:Int)(t:Tok):(Yn prog w).is (.inl i) (.int i t)=true:=Cr i t
theorem GX (prog:Program)(w:World)(x:Str)(t:Tok):(Yn prog w).is (.inr x) (.str x t)=true:=Bd x t
inductive V where
 |non |bl (b:Bool) |int (i:Int) |str (x:Str) |byt (b:Array UInt8) |flt (b:UInt64) |ref (a:Addr) |ty (n:String)
 deriving DecidableEq
noncomputable def Yo:V->Value->Prop
 | .non,u=>u=Value.none
 | .bl b,u=>u=Value.bool b
 | .int i,u=>∃ t,u=Value.int i t
 | .str x,u=>∃ t,u=Value.str x t
 | .byt b,u=>∃ t,u=Value.bytes b t
 | .flt b,u=>∃ t,u=Value.float b t
 | .ref a,u=>u=Value.ref a
 | .ty n,u=>u=Value.type n
noncomputable abbrev Ys:List V->List Value->Prop:=Paired Yo
theorem Ys.length {xs:List V}{us:List Value}(r:Ys xs us):xs.length=us.length:=Paired.length r
theorem Ys.get:∀{xs:List V}{us:List Value}{i:Nat}{x:V},Ys xs us->xs[i]?=some x->∃u,us[i]?=some u/\Yo x u
 |_,_,_,_, .nil,e=>by simp at e
 |_,_,0,_, .cons r _,e=>by simp at e;subst e;exact⟨_,rfl,r⟩
 |_,_,i+1,x, .cons _ t,e=>by
  obtain⟨u,h1,h2⟩:=Ys.get (i:=i) (x:=x) t (by simpa using e)
  exact⟨u,by simpa using h1,h2⟩
theorem Ys.set {x:V}{u:Value}(r:Yo x u):∀{xs:List V}{us:List Value} (i:Nat),Ys xs us->Ys (xs.set i x) (us.set i u)
 |_,_,_, .nil=>.nil
 |_,_,0, .cons _ t=>.cons r t
 |_,_,i+1, .cons q t=>.cons q (Ys.set r i t)
theorem Ys.append:∀{xs ys:List V}{us ws:List Value},Ys xs us->Ys ys ws->Ys (xs++ys) (us++ws):=λp s=>by
 induction p with
 |nil=>exact s
 |cons r _ ih=>exact .cons r ih
theorem Ys.take:∀{xs:List V}{us:List Value} (n:Nat),Ys xs us->Ys (xs.take n) (us.take n)
 |_,_,0,_=>.nil
 |_,_,_+1, .nil=>.nil
 |_,_,n+1, .cons r t=>.cons r (Ys.take n t)
theorem Ys.drop:∀{xs:List V}{us:List Value} (n:Nat),Ys xs us->Ys (xs.drop n) (us.drop n)
 |_,_,0,r=>r
 |_,_,_+1, .nil=>.nil
 |_,_,n+1, .cons _ t=>Ys.drop n t
noncomputable def DZ:Option V->Option Value->Prop
 |some v,some u=>Yo v u
 |none,none=>True
 |_,_=>False
noncomputable def KV {κ:Type}:List (κ×V)->List (κ×Value)->Prop:=Paired λ(p:κ×V) (q:κ×Value)=>p.1=q.1/\Yo p.2 q.2
noncomputable def kV:Key->V
 | .inl i=>.int i
 | .inr x=>.str x
inductive HO where
 /-- a list -/
 |lst (xs:List V)
 /-- a tuple (never changes) -/
 |tup (xs:List V)
 /-- a dict whose keys are ints and texts; one whose keys are tuples of ints and texts (the empty one is both) -/
 |dK (kvs:List (Key×V)) |dT (kvs:List (List Key×V))
 /-- a set of ints: its members, its size -/
 |set (S:Int->Bool) (n:Nat)
 /-- an instance of the class at C, its dict at dx, its attributes -/
 |ins (C dx:Addr) (fs:List (Str×V))
 /-- the dict of the instance at x -/
 |own (x:Addr)
 /-- the dict of an exception -/
 |xd (fs:List (Str×V))
 /-- a bound method, f of x -/
 |met (f x:Addr)
 /-- a range object lo, lo + 1, .. below hi -/
 |rng (lo hi:Int)
 /-- a thing that is known to the object (the script; a dict while a loop walks it): read, never written while it is so -/
 |frz (o:Obj) (u:HO)
 /-- a code object's table -/
 |tbl (ps:Array Value)
 /-- any other thing, by what is true of its one object (a def of one's own: SetO a S n:=HO.ext λh=>..) -/
 |ext (φ:Heap->Prop)
noncomputable abbrev Hp:=Addr->Option HO
noncomputable def upd (H:Hp)(a:Addr)(o:HO):Hp:=λb=>if b=a then some o else H b
theorem YB {H:Hp}{a:Addr}{o:HO}:upd H a o a=some o:=by unfold upd;rw[if_pos rfl]
theorem XA {H:Hp}{a b:Addr}{o:HO}(h:b≠a):upd H a o b=H b:=by unfold upd;rw[if_neg h]
theorem B1 {H:Hp}{a b:Addr}{o u:HO}(h:H a=some o)(h':H b=some u)(d:o≠u):a≠b:=by
 intro e;subst e;rw[h] at h';exact d (Option.some.inj h')
theorem X7 {H:Hp}{a b:Addr}{o:HO}(h:H a=some o)(h':H b=none):a≠b:=by
 intro e;subst e;rw[h] at h';cases h'
noncomputable def GD (h:Heap)(a:Addr)(items:Array Value):Prop:=∃ o,h.get? a=some o/\(o.cls= .type "tuple" /\o.dict=none)/\∃n,o.data= .seq items n
theorem GD.t {h:Heap}{a:Addr}{items:Array Value}(x:GD h a items):IsTup h a items:=let ⟨o,ho,c,r⟩:=x;⟨o,ho,c.1,r⟩
theorem GD.new (h:Heap)(items:Array Value):GD (h.push {cls:=.type "tuple",data:=.seq items}) h.objs.size items:=⟨_,Heap.get?_push_size _ rfl,⟨rfl,rfl⟩,_,rfl⟩
section
variable (P:Program)(w:World)
noncomputable def Y3 (H:Hp)(h:Heap)(a:Addr):HO->Prop
 | .lst xs=>xs.length<=sizeLine/\∃(its:List Value) (n:Nat),Ys xs its/\h.get? a=some {cls:=.type "list",data:=.seq its.toArray n}
 | .tup xs=>xs.length<=sizeLine/\∃its:List Value,Ys xs its/\GD h a its.toArray
 | .dK kvs=>kvs.length<=sizeLine/\(a==sysModules)=false/\∃vs,KV kvs vs/\h.DictOf (Yn P w) a vs
 | .dT kvs=>kvs.length<=sizeLine/\(a==sysModules)=false/\∃xs:List (List Key×Addr×Value),
   Paired (λ(p:List Key×V) (q:List Key×Addr×Value)=>p.1=q.1/\H q.2.1=some (.tup (p.1.map kV))/\Yo p.2 q.2.2) kvs xs/\
   ∃o es ep,h.get? a=some o/\o.ExactDict/\o.data= .dict es ep/\es.toList=xs.map (entryOfKey (tupleKind (Yn P w)))/\(xs.map (·.1)).Nodup
 | .set S n=>h.SetOf (intKind P w) a S n
 | .ins C dx fs=>H dx=some (.own a)/\fs.length<=1000/\dx≠a/\h.get? a=some (PySem.W.instObj C dx)/\
   ∃mA,h.Ns1 dx mA/\(∀f,DZ (fs.lookup f) (mA f))/\PySem.Within mA (fs.map (·.1))
 | .own _=>∃ o,h.get? a=some o
 | .xd fs=>∃ mA,h.Ns1 a mA/\∀f,DZ (fs.lookup f) (mA f)
 | .rng lo hi=>∃ t u v,h.get? a=some {cls:=.type "range",data:=.fields #[.int lo t, .int hi u, .int 1 v]}
 | .frz o u=>h.get? a=some o/\Y3 H h a u
 | .tbl ps=>h.get? a=some {cls:=.none,data:=.fields ps}
 | .met f x=>h.get? a=some (PySem.W.methodObj (.ref f) (.ref x))
 | .ext φ=>φ h/\(∃o,h.get? a=some o)/\∀h1 h2:Heap,φ h1->(∀o,h1.get? a=some o->h2.get? a=some o)->φ h2
noncomputable def HOk (H:Hp)(h:Heap):Prop:=∀ a o,H a=some o->Y3 P w H h a o
end
section
variable {P:Program}{w:World}{H H':Hp}{h h':Heap}{a:Addr}{o:HO}
theorem Y3.lt (x:Y3 P w H h a o):a<h.objs.size:=by
 cases o with
 |lst xs=>obtain⟨_,_,_,_,e⟩:=x;exact Heap.lt_size e
 |tup xs=>obtain⟨_,_,_,p⟩:=x;exact p.t.lt
 |dK kvs=>obtain⟨_,_,_,_,o,_,_,e,_⟩:=x;exact Heap.lt_size e
 |dT kvs=>obtain⟨_,_,_,_,o,_,_,e,_⟩:=x;exact Heap.lt_size e
 |set S n=>obtain⟨o,_,_,_,e,_⟩:=x;exact Heap.lt_size e
 |ins C dx fs=>obtain⟨_,_,_,e,_⟩:=x;exact Heap.lt_size e
 |own y=>obtain⟨_,e⟩:=x;exact Heap.lt_size e
 |xd fs=>obtain⟨_,⟨_,_,_,e,_⟩,_⟩:=x;exact Heap.lt_size e
 |rng lo hi=>obtain⟨_,_,_,e⟩:=x;exact Heap.lt_size e
 |frz ob u=>obtain⟨e,_⟩:=x;exact Heap.lt_size e
 |tbl ps=>exact Heap.lt_size (show h.get? a=some _ from x)
 |met f y=>exact Heap.lt_size (show h.get? a=some _ from x)
 |ext φ=>obtain⟨_,⟨_,e⟩,_⟩:=x;exact Heap.lt_size e
theorem Paired.mapP {α β:Type}{F G:α->β->Prop}:∀{l₁:List α}{l₂:List β},Paired F l₁ l₂->(∀a b,F a b->G a b)->Paired G l₁ l₂:=λp f=>by
 induction p with
 |nil=>exact .nil
 |cons r _ ih=>exact .cons (f _ _ r) ih
theorem Y3.stay (x:Y3 P w H h a o)(k:∀b u,(b=a∨H b=some (.own a))->h.get? b=some u->h'.get? b=some u)
  (ho:∀b,H b=some (.own a)->H' b=some (.own a))(ht:∀b xs,H b=some (.tup xs)->H' b=some (.tup xs)):Y3 P w H' h' a o:=by
 induction o with
 |lst xs=>obtain⟨z,its,n,r,e⟩:=x;exact⟨z,its,n,r,k _ _ (.inl rfl) e⟩
 |tup xs=>obtain⟨z,its,r,ob,e,c⟩:=x;exact⟨z,its,r,ob,k _ _ (.inl rfl) e,c⟩
 |dK kvs=>obtain⟨z,y,vs,r,ob,es,ep,e,c⟩:=x;exact⟨z,y,vs,r,ob,es,ep,k _ _ (.inl rfl) e,c⟩
 |dT kvs=>
  obtain⟨z,y,xs,r,ob,es,ep,e,c⟩:=x
  exact⟨z,y,xs,Paired.mapP r λp q z=>⟨z.1,ht _ _ z.2.1,z.2.2⟩,ob,es,ep,k _ _ (.inl rfl) e,c⟩
 |set S n=>obtain⟨ob,es,ep,t,e,c⟩:=x;exact⟨ob,es,ep,t,k _ _ (.inl rfl) e,c⟩
 |ins C dx fs=>
  obtain⟨d,z,ne,e,mA,⟨od,es,ep,e2,c⟩,r⟩:=x
  exact⟨ho _ d,z,ne,k _ _ (.inl rfl) e,mA,⟨od,es,ep,k _ _ (.inr d) e2,c⟩,r⟩
 |own y=>obtain⟨ob,e⟩:=x;exact⟨ob,k _ _ (.inl rfl) e⟩
 |xd fs=>obtain⟨mA,⟨od,es,ep,e,c⟩,r⟩:=x;exact⟨mA,⟨od,es,ep,k _ _ (.inl rfl) e,c⟩,r⟩
 |rng lo hi=>obtain⟨t,u,v,e⟩:=x;exact⟨t,u,v,k _ _ (.inl rfl) e⟩
 |frz ob u ih=>obtain⟨e,q⟩:=x;exact⟨k _ _ (.inl rfl) e,ih q⟩
 |tbl ps=>
  have e:h.get? a=some {cls:=.none,data:=.fields ps}:=x
  show h'.get? a=some {cls:=.none,data:=.fields ps}
  exact k a _ (.inl rfl) e
 |met f y=>
  have e:h.get? a=some (PySem.W.methodObj (.ref f) (.ref y)):=x
  show h'.get? a=some (PySem.W.methodObj (.ref f) (.ref y))
  exact k a _ (.inl rfl) e
 |ext φ=>obtain⟨p,⟨o,e⟩,st⟩:=x;exact⟨st _ _ p λo q=>k _ _ (.inl rfl) q,⟨o,k _ _ (.inl rfl) e⟩,st⟩
theorem HOk.lt (x:HOk P w H h)(e:H a=some o):a<h.objs.size:=(x a o e).lt
theorem HOk.fresh (x:HOk P w H h)(e:h.objs.size<=a):H a=none:=by
 cases q:H a with
 |none=>rfl
 |some u=>exact absurd (Nat.lt_of_lt_of_le (x.lt q) e) (Nat.lt_irrefl _)
theorem HOk.kept (x:HOk P w H h)(k:∀b u,h.get? b=some u->h'.get? b=some u):HOk P w H h':=λa o e=>
 (x a o e).stay (λb u _ q=>k b u q) (λ_ q=>q) λ_ _ q=>q
theorem HOk.laid (x:HOk P w H h)(k:∀b u,h.get? b=some u->h'.get? b=some u)(hp:h.objs.size<=a)(new:Y3 P w (upd H a o) h' a o):HOk P w (upd H a o) h':=λb u e=>by
 have hn:=x.fresh hp
 by_cases hb:b=a
 ·subst hb;rw[YB] at e;cases e;exact new
 ·rw[XA hb] at e
  exact(x b u e).stay (λc v _ q=>k c v q) (λc q=>by rw[XA (X7 q hn)];exact q) λc xs q=>by rw[XA (X7 q hn)];exact q
end
noncomputable def Rd (H:Hp)(a:Addr)(u:HO):Prop:=H a=some u∨∃o,H a=some (.frz o u)
theorem Rd.of {H:Hp}{a:Addr}{u:HO}(h:H a=some u):Rd H a u:=.inl h
theorem Rd.ok {P:Program}{w:World}{H:Hp}{h:Heap}{a:Addr}{u:HO}(r:Rd H a u)(x:HOk P w H h):Y3 P w H h a u:=by
 rcases r with r | ⟨o,r⟩
 ·exact x a u r
 ·obtain⟨_,q⟩:=x a _ r
  exact q
noncomputable def Mut:Option HO->Prop
 |some (.lst _)=>True
 |some (.dK _)=>True
 |some (.dT _)=>True
 |some (.set _ _)=>True
 |some (.ins _ _ _)=>True
 |some (.ext _)=>True
 |_=>False
section
variable {P:Program}{w:World}{H:Hp}{h h':Heap}{x e:Addr}{o':HO}
theorem HOk.write (ok:HOk P w H h)(mu:Mut (H x))(he:e=x∨H e=some (.own x))(k:∀b u,b≠e->h.get? b=some u->h'.get? b=some u)(heo:∃u,h'.get? e=some u)
  (new:Y3 P w (upd H x o') h' x o'):HOk P w (upd H x o') h':=λb u q=>by
 have nown:∀c y,H c=some (.own y)->c≠x:=λc y r z=>by subst z;rw[r] at mu;exact mu
 have ntup:∀c xs,H c=some (.tup xs)->c≠x:=λc xs r z=>by subst z;rw[r] at mu;exact mu
 by_cases hb:b=x
 ·subst hb;rw[YB] at q;cases q;exact new
 ·rw[XA hb] at q
  by_cases hbe:b=e
  ·have q':H b=some (.own x):=by
    rcases he with z |z
    ·exact absurd (hbe.trans z) hb
    ·rw[hbe];exact z
   rw[q] at q';cases q'
   obtain⟨v,hv⟩:=heo
   exact⟨v,by rw[hbe];exact hv⟩
  ·refine(ok b u q).stay (λc v hc r=>k c v ?_ r) (λc r=>by rw[XA (nown c b r)];exact r) λc xs r=>by rw[XA (ntup c xs r)];exact r
   rcases hc with rfl |hc
   ·exact hbe
   ·rintro rfl
    rcases he with z |z
    ·exact nown c b hc z
    ·rw[hc] at z;cases z;exact hb rfl
end
structure Un (fs ex:List Addr)(H H':Hp)(h h':Heap):Prop where
 keep:∀b o,h.get? b=some o->H b=none->b∉fs->b∉ex->h'.get? b=some o
 slot:∀b o,h.get? b=some o->H b=none->b∈fs->b∉ex->∃sl,h'.get? b=some {o with slots:=sl}
 free:∀b o,h.get? b=some o->H b=none->b∉ex->H' b=none
 there:∀b o,h.get? b=some o->b∉ex->∃o',h'.get? b=some o'
 tups:∀b xs,H b=some (.tup xs)->H' b=some (.tup xs)
 frzs:∀b o u,H b=some (.frz o u)->H' b=some (.frz o u)
 tbls:∀b ps,H b=some (.tbl ps)->∃more,H' b=some (.tbl (ps++more))
section
variable {fs fs' ex ex':List Addr}{H H1 H2:Hp}{h h1 h2 h':Heap}{a x e:Addr}{o:HO}
theorem Un.any (u:Un fs ex H H1 h h1){b:Addr}{ob:Obj}(q:h.get? b=some ob)(n:H b=none)(hx:b∉ex):∃sl,h1.get? b=some {ob with slots:=sl}:=by
 by_cases hb:b∈fs
 ·exact u.slot b ob q n hb hx
 ·exact⟨ob.slots,u.keep b ob q n hb hx⟩
theorem Un.trans (a:Un fs ex H H1 h h1)(b:Un fs ex H1 H2 h1 h2):Un fs ex H H2 h h2 where
 keep:=λc ob q n hc hx=>b.keep c ob (a.keep c ob q n hc hx) (a.free c ob q n hx) hc hx
 slot:=λc ob q n hc hx=>by
  obtain⟨sl,e1⟩:=a.slot c ob q n hc hx
  obtain⟨sl',e2⟩:=b.slot c _ e1 (a.free c ob q n hx) hc hx
  exact⟨sl',e2⟩
 free:=λc ob q n hx=>by
  obtain⟨o',e1⟩:=a.there c ob q hx
  exact b.free c o' e1 (a.free c ob q n hx) hx
 there:=λc ob q hx=>by
  obtain⟨o',e1⟩:=a.there c ob q hx
  exact b.there c o' e1 hx
 tups:=λc xs q=>b.tups c xs (a.tups c xs q)
 frzs:=λc ob xs q=>b.frzs c ob xs (a.frzs c ob xs q)
 tbls:=λc ps q=>by
  obtain⟨m1,e1⟩:=a.tbls c ps q
  obtain⟨m2,e2⟩:=b.tbls c _ e1
  exact⟨m1++m2,by rw[e2,Array.append_assoc]⟩
theorem Un.kept (k:∀b u,h.get? b=some u->h'.get? b=some u):Un fs ex H H h h':=
 ⟨λb ob q _ _ _=>k b ob q,λb ob q _ _ _=>⟨ob.slots,k b ob q⟩,λ_ _ _ n _=>n,λb ob q _=>⟨ob,k b ob q⟩,λ_ _ q=>q,λ_ _ _ q=>q,λ_ ps q=>⟨#[],by rw[q];simp⟩⟩
theorem Un.refl:Un fs ex H H h h:=Un.kept λ_ _ q=>q
theorem Un.laid (k:∀b u,h.get? b=some u->h'.get? b=some u)(hp:h.objs.size<=a)(hn:H a=none):Un fs ex H (upd H a o) h h' where
 keep:=λb u q _ _ _=>k b u q
 slot:=λb u q _ _ _=>⟨u.slots,k b u q⟩
 free:=λb u q n _=>by rw[XA (Nat.ne_of_lt (Nat.lt_of_lt_of_le (Heap.lt_size q) hp))];exact n
 there:=λb u q _=>⟨u,k b u q⟩
 tups:=λb xs q=>by rw[XA (X7 q hn)];exact q
 frzs:=λb u xs q=>by rw[XA (X7 q hn)];exact q
 tbls:=λb ps q=>⟨#[],by rw[XA (X7 q hn),q];simp⟩
theorem Un.write (mu:Mut (H x))(he:e=x∨H e=some (.own x))(k:∀b u,b≠e->h.get? b=some u->h'.get? b=some u)(heo:∃u,h'.get? e=some u):Un fs ex H (upd H x o) h h':=by
 have hx:∀b,H b=none->b≠x:=λb n z=>by subst z;rw[n] at mu;exact mu
 have hb:∀b,H b=none->b≠e:=λb n z=>by
  subst z
  rcases he with r |r
  ·exact hx b n r
  ·rw[n] at r;cases r
 have hm:∀b u,H b=some u->¬Mut (some u)->b≠x:=λb u q nm z=>by subst z;rw[q] at mu;exact nm mu
 refine⟨λb u q n _ _=>k b u (hb b n) q,λb u q n _ _=>⟨u.slots,k b u (hb b n) q⟩,λb u q n _=>by rw[XA (hx b n)];exact n,λb u q _=>?_,
  λb xs q=>by rw[XA (hm b _ q λz=>z)];exact q,λb u xs q=>by rw[XA (hm b _ q λz=>z)];exact q,λb ps q=>⟨#[],by rw[XA (hm b _ q λz=>z),q];simp⟩⟩
 by_cases hbe:b=e
 ·subst hbe;exact heo
 ·exact⟨u,k b u hbe q⟩
theorem Un.mono (u:Un fs ex H H1 h h1)(hs:∀b∈fs,b∈fs')(hx:∀b∈ex,b∈ex'):Un fs' ex' H H1 h h1:=
 ⟨λb ob q n hb he=>u.keep b ob q n (λz=>hb (hs b z)) λz=>he (hx b z),λ_ _ q n _ he=>u.any q n λz=>he (hx _ z),λb ob q n he=>u.free b ob q n λz=>he (hx b z),λb ob q he=>u.there b ob q λz=>he (hx b z),u.tups,u.frzs,u.tbls⟩
end
noncomputable def trk (h:Heap)(H:Hp):List Addr:=(List.range h.objs.size).filter λa=>(H a).isSome
noncomputable def ET (h:Heap)(H:Hp):Heap:=PySem.W.hideAll h (trk h H)
theorem BH (h:Heap)(H:Hp):(ET h H).objs.size=h.objs.size:=PySem.W.hideAll_size _ _
theorem Dr {h:Heap}{H:Hp}{b:Addr}{o:Obj}(e:h.get? b=some o)(n:H b=none):(ET h H).get? b=some o:=
 PySem.W.hideAll_get _ e λhm=>by
  have q:(H b).isSome=true:=(List.mem_filter.mp hm).2
  rw[n] at q;simp at q
theorem IY {h:Heap}{H:Hp}{b:Addr}{o:Obj}(e:(ET h H).get? b=some o):h.get? b=some o/\H b=none:=by
 have e':h.get? b=some o:=PySem.W.of_hideAll (trk h H) e
 refine⟨e',?_⟩
 cases q:H b with
 |none=>rfl
 |some x=>
  have hm:b∈trk h H:=List.mem_filter.mpr ⟨List.mem_range.mpr (Heap.lt_size e'),by simp[q]⟩
  have z:(ET h H).get? b=none:=PySem.W.hideAll_none (trk h H) hm
  rw[z] at e;cases e
noncomputable def IQ (g h:Heap)(L:Addr):List (Addr×Obj):=(List.range h.objs.size).filterMap λa=>if a=L∨(g.get? a).isSome=true then none else(h.get? a).map λo=>(a,o)
noncomputable def rest (g h:Heap)(L d:Addr):List (Addr×Obj):=(IQ g h L).filter λp=>decide (p.1≠d)
structure Mod (K:PySem.W.Frag)(mg:Str->Option Value)(base:Heap):Prop where
 kin:K.In base
 glob:base.Ns mainGlobals mg
 blt:∃mb,base.Ns builtinsNs mb/\∀x:Str,x≠ "__name__" ->mb x=bootBuiltins x
 nolimit:base.NoLimit
structure Cx where
 prog:Program
 w:World
 K:PySem.W.Frag
 mg:Str->Option Value
 base:Heap
 A:Around
 N:List Str
 s₀:Shared
 H₀:Hp
 env:Env
 outer:List Env
 stack:List Env
 ex:List Addr
 fn:Str->Bool
 calm:Bool
 pn:List (Addr×Obj)
 xe:Value->Shared->Prop
noncomputable def frs (l:List Env):List Addr:=l.filterMap (·.frame)
noncomputable abbrev Cx.fs (X:Cx):List Addr:=frs X.outer
noncomputable def Vis (sc:Scope)(x:Str):Prop:=sc.names.lookup x=some .local∨sc.names.lookup x=some .cell∨sc.names.lookup x=some .free
noncomputable def Loc (sc:Scope)(x:Str):Prop:=sc.names.lookup x=some .local∨sc.names.lookup x=some .cell
noncomputable def O2 (env:Env)(h:Heap)(m:Str->Option Value)(x:Str)(u:Value):Prop:=
 (env.kindOf x=some .local/\m x=some u)∨((env.kindOf x=some .cell∨env.kindOf x=some .free)/\∃c,env.cells.lookup x=some c/\h.IsCell c (some u))
structure Cx.Ok (X:Cx):Prop where
 mod:Mod X.K X.mg X.base
 kind:X.env.scope.kind= .function
 glob:X.env.globals=mainGlobals
 blt:X.env.builtins=builtinsNs
 above:X.s₀.heap.objs.size<=X.env.locals
 inj:∀x y c,X.env.cells.lookup x=some c->X.env.cells.lookup y=some c->x=y
 has:∀x,(X.env.kindOf x=some .cell∨X.env.kindOf x=some .free)->∃c,X.env.cells.lookup x=some c
 cab:∀x c,X.fn x=true->X.env.cells.lookup x=some c->X.s₀.heap.objs.size<=c
 hd:X.calm=true->X.A.handled=none
 frames:X.A.frames=some X.stack
 stk:X.stack=X.outer∨(X.stack=X.env::X.outer/\X.env.frame=some X.env.locals)
 exf:∀b∈X.ex,b≠X.env.locals/\∀x c,X.env.cells.lookup x=some c->c≠b
 bs:∀b o,X.base.get? b=some o->X.s₀.heap.get? b=some o/\X.H₀ b=none
 bsz:X.base.objs.size<=X.s₀.heap.objs.size
 noex:∀b o,X.base.get? b=some o->b∉X.ex
 exfs:∀b∈X.ex,b∉X.fs
 funs:X.s₀.heap.FunFrames X.base X.outer
 frf:∀b∈X.fs,X.H₀ b=none
structure Inv (X:Cx)(pins:List (Addr×Obj))(σ:List (Option V))(H:Hp)(s:Shared):Prop where
 ok:X.Ok
 os:s.os=X.s₀.os
 bare:AllBare s.gens
 base:Un X.fs X.ex X.H₀ H X.s₀.heap s.heap
 loc:∃m,s.heap.Ns X.env.locals m/\∀(i:Nat) (x:Str) (v:V),X.N[i]?=some x->σ[i]?=some (some v)->Vis X.env.scope x->∃u,Yo v u/\O2 X.env s.heap m x u
 cell:∀x c,X.env.cells.lookup x=some c->∃v,s.heap.IsCell c v
 free:H X.env.locals=none
 freeC:∀x c,X.env.cells.lookup x=some c->H c=none
 pin:∀p∈X.pn++pins,s.heap.get? p.1=some p.2/\H p.1=none/\p.1≠X.env.locals/\p.1∉X.fs/\∀v,p.2.data≠ .cell v
 hok:HOk X.prog X.w H s.heap
 len:σ.length=X.N.length
section
variable {X:Cx}{pins:List (Addr×Obj)}{σ:List (Option V)}{H H':Hp}{s:Shared}{h':Heap}
theorem Cx.Ok.nofr (ok:X.Ok){b:Addr}{o:Obj}(e:X.base.get? b=some o):b∉X.fs:=λhb=>by
 have:=(ok.funs.mem hb).1
 rw[e] at this;cases this
theorem Inv.bs (I:Inv X pins σ H s):∀b o,X.base.get? b=some o->s.heap.get? b=some o/\H b=none:=λb o e=>
 ⟨I.base.keep b o (I.ok.bs b o e).1 (I.ok.bs b o e).2 (I.ok.nofr e) (I.ok.noex b o e),I.base.free b o (I.ok.bs b o e).1 (I.ok.bs b o e).2 (I.ok.noex b o e)⟩
theorem Inv.bk (I:Inv X pins σ H s):∀b o,X.base.get? b=some o->s.heap.get? b=some o:=λb o e=>(I.bs b o e).1
theorem Inv.mod (I:Inv X pins σ H s):Mod X.K X.mg X.base:=I.ok.mod
theorem Inv.kIn (I:Inv X pins σ H s):X.K.In s.heap:=I.ok.mod.kin.keeps I.bk
theorem Inv.nolimit (I:Inv X pins σ H s):s.heap.NoLimit:=I.ok.mod.nolimit.keeps I.bk
theorem Inv.lt (I:Inv X pins σ H s):X.env.locals<s.heap.objs.size:=let ⟨_,hn,_⟩:=I.loc;hn.lt
theorem Inv.sz (I:Inv X pins σ H s):X.s₀.heap.objs.size<=s.heap.objs.size:=Nat.le_trans I.ok.above (Nat.le_of_lt I.lt)
theorem Inv.nofs (I:Inv X pins σ H s){a:Addr}(h:s.heap.objs.size<=a):a∉X.fs:=λhb=>by
 obtain⟨_,o,ho,_⟩:=I.ok.funs.mem hb
 exact absurd (Nat.lt_of_lt_of_le (Heap.lt_size ho) (Nat.le_trans I.sz h)) (Nat.lt_irrefl _)
theorem Inv.cne (I:Inv X pins σ H s):∀x c,X.env.cells.lookup x=some c->c≠X.env.locals:=λx c e z=>by
 obtain⟨v,o,ho,hd⟩:=I.cell x c e
 obtain⟨m,⟨o',es,ep,ho',hd',_⟩,_⟩:=I.loc
 rw[z,ho'] at ho;cases ho;rw[hd'] at hd;cases hd
theorem Inv.funs (I:Inv X pins σ H s):s.heap.FunFrames X.base X.outer:=by
 have all:∀(l:List Env),(∀b∈frs l,b∈X.fs)->X.s₀.heap.FunFrames X.base l->s.heap.FunFrames X.base l:=by
  intro l
  induction l with
  |nil=>intro _ _;trivial
  |cons env r ih=>
   intro hs hl
   obtain⟨hk,⟨L,o,hf,hn,ho,hd⟩,hr⟩:=hl
   have hL:L∈X.fs:=hs L (by unfold frs;rw[List.filterMap_cons,hf];exact List.mem_cons_self)
   obtain⟨sl,e⟩:=I.base.slot L o ho (I.ok.frf L hL) hL λz=>I.ok.exfs L z hL
   exact⟨hk,⟨L,_,hf,hn,e,hd⟩,ih (λb hb=>hs b (by unfold frs;rw[List.filterMap_cons,hf];exact List.mem_cons_of_mem _ hb)) hr⟩
 exact all X.outer (λ_ hb=>hb) I.ok.funs
theorem Inv.stack (I:Inv X pins σ H s):s.heap.FunFrames X.base X.stack:=by
 rcases I.ok.stk with e | ⟨e,hf⟩
 ·rw[e];exact I.funs
 ·rw[e]
  obtain⟨m,hn,_⟩:=I.loc
  refine .cons (by rw[I.ok.kind];decide) hf hn ?_ I.funs
  exact Heap.get?_none_of_le (Nat.le_trans I.ok.bsz I.ok.above)
theorem Inv.stkSub (I:Inv X pins σ H s):∀b∈frs X.stack,b∈X.env.locals::X.fs:=λb hb=>by
 rcases I.ok.stk with e | ⟨e,hf⟩
 ·rw[e] at hb;exact List.mem_cons_of_mem _ hb
 ·rw[e] at hb
  unfold frs at hb
  rw[List.filterMap_cons,hf] at hb
  exact hb
theorem Inv.stkFree (I:Inv X pins σ H s):∀b∈frs X.stack,H b=none:=λb hb=>by
 rcases List.mem_cons.mp (I.stkSub b hb) with e |hb
 ·rw[e];exact I.free
 ·obtain⟨_,o,ho,_⟩:=I.ok.funs.mem hb
  exact I.base.free b o ho (I.ok.frf b hb) λz=>I.ok.exfs b z hb
theorem Inv.step {g':Array GenState}{t':Nat}{d':Drawn}{ch:List Addr}(I:Inv X pins σ H s)
  (hch:∀b∈ch,(b∈X.ex∨X.s₀.heap.objs.size<=b)/\b≠X.env.locals/\(∀x c,X.env.cells.lookup x=some c->c≠b)/\∀p∈X.pn++pins,p.1≠b)
  (keep:∀b o,b≠X.env.locals->b∉X.fs->b∉ch->s.heap.get? b=some o->H b=none->h'.get? b=some o)
  (slot:∀b o,b≠X.env.locals->b∈X.fs->b∉ch->s.heap.get? b=some o->H b=none->∃sl,h'.get? b=some {o with slots:=sl})(free:∀b o,b∉ch->s.heap.get? b=some o->H b=none->H' b=none)
  (there:∀b o,b∉ch->s.heap.get? b=some o->∃o',h'.get? b=some o')
  (tups:∀b xs,H b=some (.tup xs)->H' b=some (.tup xs))(frzs:∀b o u,H b=some (.frz o u)->H' b=some (.frz o u))(tbls:∀b ps,H b=some (.tbl ps)->∃more,H' b=some (.tbl (ps++more)))
  (ns:∀m,s.heap.Ns X.env.locals m->h'.Ns X.env.locals m)(hok:HOk X.prog X.w H' h')(hg:AllBare g'):
  Inv X pins σ H' {s with heap:=h',gens:=g',drawn:=d',toks:=t'}:=by
 have neL:∀b o,X.s₀.heap.get? b=some o->b≠X.env.locals:=λb o e=>Nat.ne_of_lt (Nat.lt_of_lt_of_le (Heap.lt_size e) I.ok.above)
 have neC:∀b o,X.s₀.heap.get? b=some o->b∉X.ex->b∉ch:=λb o e hx hb=>by
  rcases(hch b hb).1 with z |z
  ·exact hx z
  ·exact absurd (Nat.lt_of_lt_of_le (Heap.lt_size e) z) (Nat.lt_irrefl _)
 have cellK:∀x c,X.env.cells.lookup x=some c->∀v,s.heap.IsCell c v->h'.IsCell c v:=λx c e v ⟨o,ho,hd⟩=>by
  have nch:c∉ch:=λz=>(hch c z).2.2.1 x c e rfl
  by_cases hc:c∈X.fs
  ·obtain⟨sl,q⟩:=slot c o (I.cne x c e) hc nch ho (I.freeC x c e)
   exact⟨_,q,hd⟩
  ·exact⟨o,keep c o (I.cne x c e) hc nch ho (I.freeC x c e),hd⟩
 refine⟨I.ok,I.os,hg,⟨λb o e n hb hx=>?_,λb o e n hb hx=>?_,λb o e n hx=>?_,λb o e hx=>?_,λb xs e=>tups b xs (I.base.tups b xs e),λb o xs e=>frzs b o xs (I.base.frzs b o xs e),λb ps e=>?_⟩,?_,λx c e=>?_,?_,λx c e=>?_,λp hp=>?_,hok,I.len⟩
 ·exact keep b o (neL b o e) hb (neC b o e hx) (I.base.keep b o e n hb hx) (I.base.free b o e n hx)
 ·obtain⟨sl,e1⟩:=I.base.slot b o e n hb hx
  obtain⟨sl',e2⟩:=slot b _ (neL b o e) hb (neC b o e hx) e1 (I.base.free b o e n hx)
  exact⟨sl',e2⟩
 ·obtain⟨o',e1⟩:=I.base.there b o e hx
  exact free b o' (neC b o e hx) e1 (I.base.free b o e n hx)
 ·obtain⟨o',e1⟩:=I.base.there b o e hx
  exact there b o' (neC b o e hx) e1
 ·obtain⟨m1,e1⟩:=I.base.tbls b ps e
  obtain⟨m2,e2⟩:=tbls b _ e1
  exact⟨m1++m2,by rw[e2,Array.append_assoc]⟩
 ·obtain⟨m,hn,hl⟩:=I.loc
  refine⟨m,ns m hn,λi x v e1 e2 e3=>?_⟩
  obtain⟨u,r,l⟩:=hl i x v e1 e2 e3
  refine⟨u,r,?_⟩
  rcases l with l | ⟨k,c,e,z⟩
  ·exact .inl l
  ·exact .inr ⟨k,c,e,cellK x c e _ z⟩
 ·obtain⟨v,z⟩:=I.cell x c e
  exact⟨v,cellK x c e v z⟩
 ·obtain⟨m,⟨o,_,_,ho,_⟩,_⟩:=I.loc
  exact free _ o (λz=>(hch _ z).2.1 rfl) ho I.free
 ·obtain⟨v,o,ho,hd⟩:=I.cell x c e
  exact free c o (λz=>(hch c z).2.2.1 x c e rfl) ho (I.freeC x c e)
 ·obtain⟨e,n,ne,nf,d⟩:=I.pin p hp
  have nch:p.1∉ch:=λz=>(hch p.1 z).2.2.2 p hp rfl
  exact⟨keep p.1 p.2 ne nf nch e n,free p.1 p.2 nch e n,ne,nf,d⟩
theorem Inv.un {t':Nat}(I:Inv X pins σ H s)(u:Un X.fs [] H H' s.heap h')(hok:HOk X.prog X.w H' h'):Inv X pins σ H' {s with heap:=h',toks:=t'}:=by
 obtain⟨m,⟨o,es,ep,ho,r⟩,_⟩:=id I.loc
 obtain⟨sl,hL⟩:=u.any ho I.free (by simp)
 exact I.step (g':=s.gens) (d':=s.drawn) (ch:=[]) (λ_ z=>nomatch z) (λb o _ hb _ e n=>u.keep b o e n hb (by simp)) (λb o _ hb _ e n=>u.slot b o e n hb (by simp)) (λb o _ e n=>u.free b o e n (by simp)) (λb o _ e=>u.there b o e (by simp)) u.tups u.frzs u.tbls (λm' hm=>by
  obtain⟨o',es',ep',ho',r'⟩:=hm
  rw[ho] at ho';cases ho'
  exact⟨_,es',ep',hL,r'⟩) hok I.bare
theorem Inv.call {g':Array GenState}{t':Nat}{d':Drawn}{ch:List Addr}(I:Inv X pins σ H s)(u:Un (frs X.stack) ch H H' s.heap h')(hok:HOk X.prog X.w H' h')(hg:AllBare g')
  (hch:∀b∈ch,(b∈X.ex∨X.s₀.heap.objs.size<=b)/\b≠X.env.locals/\(∀x c,X.env.cells.lookup x=some c->c≠b)/\∀p∈X.pn++pins,p.1≠b):
  Inv X pins σ H' {s with heap:=h',gens:=g',drawn:=d',toks:=t'}:=by
 obtain⟨m,⟨o,es,ep,ho,r⟩,_⟩:=id I.loc
 obtain⟨sl,hL⟩:=u.any ho I.free λz=>(hch _ z).2.1 rfl
 exact I.step (ch:=ch) hch (λb o hL hb hc e n=>u.keep b o e n (λz=>(List.mem_cons.mp (I.stkSub b z)).elim hL hb) hc) (λb o _ _ hc e n=>u.any e n hc) (λb o hc e n=>u.free b o e n hc) (λb o hc e=>u.there b o e hc) u.tups u.frzs u.tbls (λm' hm=>by
  obtain⟨o',es',ep',ho',r'⟩:=hm
  rw[ho] at ho';cases ho'
  exact⟨_,es',ep',hL,r'⟩) hok hg
theorem Inv.turned {t':Nat}{it:Addr}(I:Inv X pins σ H s)(k:∀b o,b≠it->s.heap.get? b=some o->h'.get? b=some o)(hn:H it=none)(hL:it≠X.env.locals)
  (h1:it∈X.ex∨X.s₀.heap.objs.size<=it)(h2:∀x c,X.env.cells.lookup x=some c->c≠it)(h3:∀p∈X.pn++pins,p.1≠it):Inv X pins σ H {s with heap:=h',toks:=t'}:=by
 have nit:∀b u,H b=some u->b≠it:=λb u e z=>by rw[z,hn] at e;cases e
 refine I.step (g':=s.gens) (d':=s.drawn) (ch:=[it]) (λb hb=>?_) (λb o _ _ hc e _=>k b o (λz=>hc (by simp[z])) e) (λb o _ _ hc e _=>⟨o.slots,k b o (λz=>hc (by simp[z])) e⟩) (λ_ _ _ _ n=>n)
  (λb o hc e=>⟨o,k b o (λz=>hc (by simp[z])) e⟩) (λ_ _ e=>e) (λ_ _ _ e=>e) (λb ps e=>⟨#[],by rw[e];simp⟩) (λm hm=>?_) (λb u e=>?_) I.bare
 ·have e:b=it:=by simpa using hb
  subst e
  exact⟨h1,hL,h2,h3⟩
 ·obtain⟨o,es,ep,ho,r⟩:=hm
  exact⟨o,es,ep,k _ o (Ne.symm hL) ho,r⟩
 ·refine(I.hok b u e).stay (λc v hc q=>k c v ?_ q) (λ_ q=>q) λ_ _ q=>q
  rcases hc with z |z
  ·rw[z];exact nit b u e
  ·exact nit c _ z
theorem Inv.tok (I:Inv X pins σ H s)(t:Nat):Inv X pins σ H {s with toks:=t}:=I.un (h':=s.heap) (t':=t) Un.refl I.hok
theorem Inv.kept {t':Nat}(I:Inv X pins σ H s)(k:∀b u,s.heap.get? b=some u->h'.get? b=some u):Inv X pins σ H {s with heap:=h',toks:=t'}:=I.un (Un.kept k) (I.hok.kept k)
theorem Inv.laid {a:Addr}{o:HO}{t':Nat}(I:Inv X pins σ H s)(k:∀b u,s.heap.get? b=some u->h'.get? b=some u)(hp:s.heap.objs.size<=a)(new:Y3 X.prog X.w (upd H a o) h' a o):
  Inv X pins σ (upd H a o) {s with heap:=h',toks:=t'}:=I.un (Un.laid k hp (I.hok.fresh hp)) (I.hok.laid k hp new)
theorem Inv.write {x e:Addr}{o:HO}{t':Nat}(I:Inv X pins σ H s)(mu:Mut (H x))(he:e=x∨H e=some (.own x))(k:∀b u,b≠e->s.heap.get? b=some u->h'.get? b=some u)(heo:∃u,h'.get? e=some u)
  (new:Y3 X.prog X.w (upd H x o) h' x o):Inv X pins σ (upd H x o) {s with heap:=h',toks:=t'}:=I.un (Un.write mu he k heo) (I.hok.write mu he k heo new)
theorem Inv.weak {σ':List (Option V)}(I:Inv X pins σ H s)(hl:σ'.length=σ.length)(w:∀(i:Nat) v,σ'[i]?=some (some v)->σ[i]?=some (some v)):Inv X pins σ' H s:=
 ⟨I.ok,I.os,I.bare,I.base,let ⟨m,hn,hl'⟩:=I.loc;⟨m,hn,λi x v e1 e2 e3=>hl' i x v e1 (w i v e2) e3⟩,I.cell,I.free,I.freeC,I.pin,I.hok,hl.trans I.len⟩
theorem Inv.pins_of {pins':List (Addr×Obj)}(I:Inv X pins σ H s)(h:∀p∈pins',s.heap.get? p.1=some p.2/\H p.1=none/\p.1≠X.env.locals/\p.1∉X.fs/\∀v,p.2.data≠ .cell v):Inv X pins' σ H s:=
 ⟨I.ok,I.os,I.bare,I.base,I.loc,I.cell,I.free,I.freeC,λp hp=>(List.mem_append.mp hp).elim (λz=>I.pin p (List.mem_append_left _ z)) (h p),I.hok,I.len⟩
theorem F1 {N:List Str}(hN:N.Nodup){i j:Nat}{x:Str}(a:N[i]?=some x)(b:N[j]?=some x):i=j:=by
 obtain⟨h1,e1⟩:=List.getElem?_eq_some_iff.mp a
 obtain⟨h2,e2⟩:=List.getElem?_eq_some_iff.mp b
 exact(List.getElem_inj hN).mp (e1.trans e2.symm)
theorem Gn {M:Model}{A:Around}{E:Value->Shared->Prop}{i:Nat}{x:Str}{v:V}{u:Value}{Q:Unit->Shared->Prop}(I:Inv X pins σ H s)(hN:X.N.Nodup)(hi:X.N[i]?=some x)(hx:Loc X.env.scope x)(r:Yo v u)
  (h:∀s',Inv X pins (σ.set i (some v)) H s'->(∃a,Heap.SameBut a s.heap s'.heap/\(a=X.env.locals∨X.env.cells.lookup x=some a))->Q () s')(hf:X.fn x=true∨X.env.scope.names.lookup x=some .local:=by first |exact .inl rfl |exact .inr rfl |assumption):wpAny M A (storeName X.env x u) Q E s:=by
 obtain⟨m,hn,hl⟩:=id I.loc
 have hcls:(X.env.scope.kind== .class || (X.env.scope.kind== .module&&X.env.locals !=X.env.globals))=false:=by rw[I.ok.kind];rfl
 have hiσ:i<σ.length:=by rw[I.len];exact(List.getElem?_eq_some_iff.mp hi).1
 have cne:=I.cne
 have tracked:∀{a:Addr}{h':Heap},(∃o,s.heap.get? a=some o/\H a=none)->Heap.SameBut a s.heap h'->HOk X.prog X.w H h':=fun {a h'} ha hs b ob e=>by
  obtain⟨_,_,hfree⟩:=ha
  refine(I.hok b ob e).stay (λc w' hc q=>(hs.2 c ?_).trans q) (λ_ q=>q) λ_ _ q=>q
  rintro rfl
  rcases hc with rfl |hc
  ·rw[hfree] at e;cases e
  ·rw[hfree] at hc;cases hc
 rcases hx with hk |hk
 ·refine wpAny_storeName_local hk hn (λh' hn' hs=>?_) hcls
  obtain⟨oL,_,_,hoL,_⟩:=id hn
  refine h _ ⟨I.ok,I.os,I.bare,⟨λb o e n hb hx=>?_,λb o e n hb hx=>?_,I.base.free,λb o e hx=>?_,I.base.tups,I.base.frzs,I.base.tbls⟩,⟨_,hn',λj y v' e1 e2 e3=>?_⟩,λy c e=>?_,I.free,I.freeC,λp hp=>?_,tracked ⟨oL,hoL,I.free⟩ hs,by simpa using I.len⟩ ⟨_,hs, .inl rfl⟩
  ·exact(hs.2 b (Nat.ne_of_lt (Nat.lt_of_lt_of_le (Heap.lt_size e) I.ok.above))).trans (I.base.keep b o e n hb hx)
  ·obtain⟨sl,e1⟩:=I.base.slot b o e n hb hx
   exact⟨sl,(hs.2 b (Nat.ne_of_lt (Nat.lt_of_lt_of_le (Heap.lt_size e) I.ok.above))).trans e1⟩
  ·obtain⟨o',e1⟩:=I.base.there b o e hx
   exact⟨o',(hs.2 b (Nat.ne_of_lt (Nat.lt_of_lt_of_le (Heap.lt_size e) I.ok.above))).trans e1⟩
  ·by_cases hj:j=i
   ·subst hj
    rw[hi] at e1;cases e1
    rw[List.getElem?_set_self hiσ] at e2
    cases e2
    exact⟨u,r, .inl ⟨hk,by simp⟩⟩
   ·rw[List.getElem?_set_ne (Ne.symm hj)] at e2
    obtain⟨u',r',q⟩:=hl j y v' e1 e2 e3
    refine⟨u',r',?_⟩
    rcases q with⟨k,e⟩ | ⟨k,c,e,z⟩
    ·refine .inl ⟨k,?_⟩
     have:y≠x:=λe=>hj (F1 hN e1 (e▸hi))
     simp[this,e]
    ·exact .inr ⟨k,c,e,z.sameBut hs (cne y c e)⟩
  ·obtain⟨w',z⟩:=I.cell y c e
   exact⟨w',z.sameBut hs (cne y c e)⟩
  ·obtain⟨e,n,ne,nf,d⟩:=I.pin p hp
   exact⟨(hs.2 p.1 ne).trans e,n,ne,nf,d⟩
 ·have hfn:X.fn x=true:=by
   rcases hf with z |z
   ·exact z
   ·rw[z] at hk;cases hk
  obtain⟨c,hc⟩:=I.ok.has x (.inl hk)
  obtain⟨w',z⟩:=I.cell x c hc
  refine wpAny_storeName_cell I.ok.kind hk hc z (λh' hc' hs=>?_)
  obtain⟨oc,hoc,hocd⟩:=id z
  refine h {s with heap:=h'} ⟨I.ok,I.os,I.bare,⟨λb o e n hb hx=>?_,λb o e n hb hx=>?_,I.base.free,λb o e hx=>?_,I.base.tups,I.base.frzs,I.base.tbls⟩,⟨m,hn.sameBut hs (Ne.symm (cne x c hc)),λj y v' e1 e2 e3=>?_⟩,λy c' e=>?_,I.free,I.freeC,λp hp=>?_,tracked ⟨oc,hoc,I.freeC x c hc⟩ hs,by simpa using I.len⟩ ⟨c,hs, .inr hc⟩
  ·exact(hs.2 b (Nat.ne_of_lt (Nat.lt_of_lt_of_le (Heap.lt_size e) (I.ok.cab x c hfn hc)))).trans (I.base.keep b o e n hb hx)
  ·obtain⟨sl,e1⟩:=I.base.slot b o e n hb hx
   exact⟨sl,(hs.2 b (Nat.ne_of_lt (Nat.lt_of_lt_of_le (Heap.lt_size e) (I.ok.cab x c hfn hc)))).trans e1⟩
  ·obtain⟨o',e1⟩:=I.base.there b o e hx
   exact⟨o',(hs.2 b (Nat.ne_of_lt (Nat.lt_of_lt_of_le (Heap.lt_size e) (I.ok.cab x c hfn hc)))).trans e1⟩
  ·by_cases hj:j=i
   ·subst hj
    rw[hi] at e1;cases e1
    rw[List.getElem?_set_self hiσ] at e2
    cases e2
    exact⟨u,r, .inr ⟨.inl hk,c,hc,hc'⟩⟩
   ·rw[List.getElem?_set_ne (Ne.symm hj)] at e2
    obtain⟨u',r',q⟩:=hl j y v' e1 e2 e3
    refine⟨u',r',?_⟩
    rcases q with q | ⟨k,c',e,z'⟩
    ·exact .inl q
    ·refine .inr ⟨k,c',e,z'.sameBut hs ?_⟩
     rintro rfl
     exact hj (F1 hN e1 (I.ok.inj _ _ _ e hc▸hi))
  ·by_cases hcc:c'=c
   ·subst hcc;exact⟨_,hc'⟩
   ·obtain⟨w2,z2⟩:=I.cell y c' e
    exact⟨w2,z2.sameBut hs hcc⟩
  ·obtain⟨e,n,ne,nf,d⟩:=I.pin p hp
   refine⟨(hs.2 p.1 ?_).trans e,n,ne,nf,d⟩
   intro q
   rw[q,hoc] at e
   have q':oc=p.2:=Option.some.inj e
   exact d w' (by rw[←q'];exact hocd)
theorem JH {M:Model}{A:Around}{E:Value->Shared->Prop}{i:Nat}{x:Str}{v:V}{u:Value}{Q:Unit->Shared->Prop}(I:Inv X pins σ H s)(hN:X.N.Nodup)(hi:X.N[i]?=some x)(hx:Loc X.env.scope x)(r:Yo v u)
  (h:∀s',Inv X pins (σ.set i (some v)) H s'->Q () s')(hf:X.fn x=true∨X.env.scope.names.lookup x=some .local:=by first |exact .inl rfl |exact .inr rfl |assumption):wpAny M A (storeName X.env x u) Q E s:=
 Gn I hN hi hx r (λs' I' _=>h s' I') hf
theorem Inv.call' {s':Shared}{ch:List Addr}(I:Inv X pins σ H s)(ho:s'.os=s.os)(u:Un (frs X.stack) ch H H' s.heap s'.heap)(hok:HOk X.prog X.w H' s'.heap)(hg:AllBare s'.gens)
  (hch:∀b∈ch,(b∈X.ex∨X.s₀.heap.objs.size<=b)/\b≠X.env.locals/\(∀x c,X.env.cells.lookup x=some c->c≠b)/\∀p∈X.pn++pins,p.1≠b):Inv X pins σ H' s':=by
 obtain⟨h',g',d',t',o'⟩:=s'
 have e:o'=s.os:=ho
 subst e
 exact I.call (g':=g') (t':=t') (d':=d') u hok hg hch
end
noncomputable abbrev XK:=Value->Option Addr->Hp->Prop
noncomputable abbrev St:=List (Option V)
noncomputable abbrev VK:=V->Hp->Prop
noncomputable abbrev TE:=St->Hp->VK->Prop
noncomputable abbrev TT:=St->Hp->(Bool->Hp->Prop)->Prop
noncomputable abbrev TA:=St->Hp->(List V->Hp->Prop)->Prop
structure Ends where
 nx:St->Hp->Prop
 rt:VK
 bk:St->Hp->Prop:=λ_ _=>False
 ct:St->Hp->Prop:=λ_ _=>False
noncomputable abbrev TS:=Ends->St->Hp->Prop
noncomputable def EP (X:Cx)(pins:List (Addr×Obj))(σ:St)(Q:VK)(u:Value)(s':Shared):Prop:=∃ v H',Inv X pins σ H' s'/\Yo v u/\Q v H'
noncomputable def TP (X:Cx)(pins:List (Addr×Obj))(σ:St)(Q:Bool->Hp->Prop)(b:Bool)(s':Shared):Prop:=∃ H',Inv X pins σ H' s'/\Q b H'
noncomputable def AP (X:Cx)(pins:List (Addr×Obj))(σ:St)(Q:List V->Hp->Prop)(us:List Value)(s':Shared):Prop:=∃ vs H',Inv X pins σ H' s'/\Ys vs us/\Q vs H'
noncomputable def SP (X:Cx)(pins:List (Addr×Obj))(D:Ends)(f:Flow)(s':Shared):Prop:=
 match f with
 | .next=>∃ σ' H',Inv X pins σ' H' s'/\D.nx σ' H'
 | .brk=>∃ σ' H',Inv X pins σ' H' s'/\D.bk σ' H'
 | .cont=>∃ σ' H',Inv X pins σ' H' s'/\D.ct σ' H'
 | .ret u=>∃ v σ' H',Inv X pins σ' H' s'/\Yo v u/\D.rt v H'
noncomputable def PE (X:Cx)(e:Expr)(t:TE):Prop:=
 ∀(pins:List (Addr×Obj)) (s:Shared) (σ:St) (H:Hp) (Q:VK),Inv X pins σ H s->t σ H Q->wpAny (model X.prog X.w) X.A (eval e X.env) (EP X pins σ Q) X.xe s
noncomputable def PT (X:Cx)(e:Expr)(t:TT):Prop:=
 ∀(pins:List (Addr×Obj)) (s:Shared) (σ:St) (H:Hp) (Q:Bool->Hp->Prop),Inv X pins σ H s->t σ H Q->wpAny (model X.prog X.w) X.A (isTrue e X.env (eval e X.env)) (TP X pins σ Q) X.xe s
noncomputable def PW (X:Cx)(e:Expr)(t:TT):Prop:=
 ∀(whole:Sem Value) (pins:List (Addr×Obj)) (s:Shared) (σ:St) (H:Hp) (Q:Bool->Hp->Prop),Inv X pins σ H s->t σ H Q->wpAny (model X.prog X.w) X.A (isTrue e X.env whole) (TP X pins σ Q) X.xe s
theorem PW.pt {X:Cx}{e:Expr}{t:TT}(h:PW X e t):PT X e t:=h _
noncomputable def PA (X:Cx)(es:List Expr)(t:TA):Prop:=
 ∀(pos:Pos) (pins:List (Addr×Obj)) (s:Shared) (σ:St) (H:Hp) (Q:List V->Hp->Prop),Inv X pins σ H s->t σ H Q->wpAny (model X.prog X.w) X.A (spliced (backTo pos (starEach es X.env))) (AP X pins σ Q) X.xe s
noncomputable def PS (X:Cx)(st:Stmt)(t:TS):Prop:=
 ∀(pins:List (Addr×Obj)) (s:Shared) (σ:St) (H:Hp) (D:Ends),Inv X pins σ H s->t D σ H->wpAny (model X.prog X.w) X.A (exec st X.env) (SP X pins D) X.xe s
noncomputable def PSs (X:Cx)(st:List Stmt)(t:TS):Prop:=
 ∀(pins:List (Addr×Obj)) (s:Shared) (σ:St) (H:Hp) (D:Ends),Inv X pins σ H s->t D σ H->wpAny (model X.prog X.w) X.A (execs st X.env) (SP X pins D) X.xe s
theorem thn {α:Type}{t:Sem α}{Q Q':α->Shared->Prop}{M:Model}{A:Around}{E:Value->Shared->Prop}{s:Shared}(h:wpAny M A t Q E s)(hQ:∀a s,Q a s->Q' a s):wpAny M A t Q' E s:=wpAny_mono h hQ λ_ _ x=>x
section
variable {X:Cx}
noncomputable def GF (i:Nat):TE:=λσ H Q=>∃ v,σ[i]?=some (some v)/\Q v H
noncomputable def tC (v:V):TE:=λ_ H Q=>Q v H
theorem M9 {i:Nat}{x:Str}{pos:Pos}(hN:X.N[i]?=some x)(hv:Vis X.env.scope x)(hd:(x==("__debug__":Str))=false:=by decide)(hcd:(x==("__classdict__":Str))=false:=by decide):PE X (.Name x pos) (GF i):=by
 intro pins s σ H Q I h
 obtain⟨v,e,h⟩:=h
 obtain⟨m,hn,hl⟩:=I.loc
 obtain⟨u,r,l⟩:=hl i x v hN e hv
 have fin:EP X pins σ Q u s:=⟨v,H,I,r,h⟩
 rcases l with⟨hk,hm⟩ | ⟨hk,c,hc,hcell⟩
 ·exact wpAny_Name (wpAny_loadName_local I.ok.kind hk hn hm fin) hd
 ·rcases hk with hk |hk
  ·exact wpAny_Name (wpAny_loadName_cell I.ok.kind hk hc hcell fin) hd
  ·exact wpAny_Name (wpAny_loadName_free I.ok.kind hk hc hcell fin hcd) hd
theorem Xh {i j pos}:PE X (.Constant (.int i) j pos) (tC (.int i)):=λ_ _ _ H _ I h=>wpAny_Constant_int ⟨.int i,H,I.tok _,⟨_,rfl⟩,h⟩
theorem QE {b j pos}:PE X (.Constant (.bool b) j pos) (tC (.bl b)):=λ_ _ _ H _ I h=>Constant_bool ⟨.bl b,H,I,rfl,h⟩
noncomputable def Gl (X:Cx)(x:Str):Prop:=X.env.kindOf x=some .globalImplicit
theorem BW {E:Value->Shared->Prop}{pins:List (Addr×Obj)}{s:Shared}{σ:St}{H:Hp}{x:Str}{u:Value}{pos:Pos}{Q:Value->Shared->Prop}(I:Inv X pins σ H s)(hg:Gl X x)(hm:X.mg x=some u)(h:Q u s)
  (hd:(x==("__debug__":Str))=false:=by decide):wpAny (model X.prog X.w) X.A (eval (.Name x pos) X.env) Q E s:=
 Calls.Name_function_global I.ok.kind hg (Calls.loadGlobal_global (by rw[I.ok.glob];exact I.mod.glob.keeps I.bk) hm h) hd
theorem U2 {E:Value->Shared->Prop}{pins:List (Addr×Obj)}{s:Shared}{σ:St}{H:Hp}{x:Str}{u:Value}{pos:Pos}{Q:Value->Shared->Prop}(I:Inv X pins σ H s)(hg:Gl X x)(hm:X.mg x=none)(hv:bootBuiltins x=some u)(h:Q u s)
  (hn:x≠ "__name__":=by decide)(hd:(x==("__debug__":Str))=false:=by decide):wpAny (model X.prog X.w) X.A (eval (.Name x pos) X.env) Q E s:=by
 obtain⟨mb,h1,h2⟩:=I.mod.blt
 exact Calls.Name_function_global I.ok.kind hg (Calls.loadGlobal_builtin (by rw[I.ok.glob];exact I.mod.glob.keeps I.bk) hm (by rw[I.ok.blt];exact h1.keeps I.bk) ((h2 x hn).trans hv) h) hd
theorem IW {x:Str}{v:V}{u:Value}{pos:Pos}(hg:Gl X x)(hm:X.mg x=some u)(r:Yo v u)(hd:(x==("__debug__":Str))=false:=by decide):PE X (.Name x pos) (tC v):=
 λ_ _ _ H _ I h=>BW I hg hm ⟨v,H,I,r,h⟩ hd
theorem EL {x:Str}{v:V}{u:Value}{pos:Pos}(hg:Gl X x)(hm:X.mg x=none)(hv:bootBuiltins x=some u)(r:Yo v u)(hn:x≠ "__name__":=by decide)(hd:(x==("__debug__":Str))=false:=by decide):PE X (.Name x pos) (tC v):=
 λ_ _ _ H _ I h=>U2 I hg hm hv ⟨v,H,I,r,h⟩ hn hd
variable {a b:Expr}{ta tb:TE}{pos:Pos}
noncomputable def PC (X:Cx)(op:CmpOp)(a b:Expr)(t:TE):Prop:=
 ∀(pins:List (Addr×Obj)) (s:Shared) (σ:St) (H:Hp) (Q:VK),Inv X pins σ H s->t σ H Q->
  wpAny (model X.prog X.w) X.A (eval a X.env) (λv s₁=>wpAny (model X.prog X.w) X.A (eval b X.env) (λu s₂=>wpAny (model X.prog X.w) X.A (compareOp op v u) (EP X pins σ Q) X.xe s₂) X.xe s₁) X.xe s
theorem Hw (b:Expr){op:CmpOp}(h:op≠ .In)(h2:op≠ .NotIn):behindInMarks op b=false:=by
 have e1:(op==CmpOp.In)=false:=by cases op<;> first |rfl |exact absurd rfl h
 have e2:(op==CmpOp.NotIn)=false:=by cases op<;> first |rfl |exact absurd rfl h2
 cases b<;> simp[behindInMarks,e1,e2]
noncomputable def tB (t:TE):TT:=λσ H Q=>t σ H λx H1=>∃ c,x= .bl c/\Q c H1
theorem ME {op:CmpOp}{t:TE}(h:PC X op a b t)(h1:behindInMarks op b=false:=by first |exact Hw _ (by decide) (by decide) |rfl):PT X (.Compare a [op] [b] pos) (tB t):=by
 intro pins s σ H Q I hw
 refine wpAny_isTrue_Compare1 (thn (h pins s σ H _ I hw) λv s1 h1=>thn h1 λu s2 h2=>thn h2 λc s3 r9=>?_) h1
 obtain⟨x,H1,I1,r1,q1⟩:=r9
 obtain⟨d,rfl,q⟩:=q1
 cases r1
 exact wpAny_truthy_bool ⟨H1,I1,q⟩
theorem Ve {e:Expr}{t:TE}(h:PE X e t)(he:∀whole,isTrue e X.env whole=(do let v ←whole;standAt e.pos;holding [v] (truthy v)):=by intro _;rfl):PT X e (tB t):=by
 intro pins s σ H Q I hw
 refine isTrue_plain (thn (h pins s σ H _ I hw) λv s1 r9=>?_) (he _)
 obtain⟨x,H1,I1,r1,q1⟩:=r9
 obtain⟨d,rfl,q⟩:=q1
 cases r1
 exact wpAny_truthy_bool ⟨H1,I1,q⟩
variable {tA tB':TT}{rest:List Expr}
noncomputable def OG (t u:TT):TT:=λσ H Q=>t σ H λc H1=>if c=true then u σ H1 Q else Q false H1
noncomputable def tOr (t u:TT):TT:=λσ H Q=>t σ H λc H1=>if c=true then Q true H1 else u σ H1 Q
noncomputable def OL (t:TT):TT:=λσ H Q=>t σ H λc H1=>Q (!c) H1
theorem Bl (ha:PT X a tA):PW X (.BoolOp .And [a] pos) tA:=by
 intro wh pins s σ H Q I h
 refine isTrue_and (thn (ha pins s σ H Q I h) λc s1 e=>?_)
 cases c with
 |true=>exact isTrue_and_nil e
 |false=>exact e
theorem Iz (ha:PT X a tA):PW X (.BoolOp .Or [a] pos) tA:=by
 intro wh pins s σ H Q I h
 refine isTrue_or (thn (ha pins s σ H Q I h) λc s1 e=>?_)
 cases c with
 |false=>exact isTrue_or_nil e
 |true=>exact e
theorem Iq (ha:PT X a tA)(hb:PW X (.BoolOp .And (b::rest) pos) tB'):PW X (.BoolOp .And (a::b::rest) pos) (OG tA tB'):=by
 intro wh pins s σ H Q I h
 refine isTrue_and (thn (ha pins s σ H _ I h) λc s1 r9=>?_)
 obtain⟨H1,I1,q1⟩:=r9
 cases c with
 |true=>exact hb wh pins s1 σ H1 Q I1 q1
 |false=>exact⟨H1,I1,q1⟩
theorem MU (ha:PT X a tA)(hb:PW X (.BoolOp .Or (b::rest) pos) tB'):PW X (.BoolOp .Or (a::b::rest) pos) (tOr tA tB'):=by
 intro wh pins s σ H Q I h
 refine isTrue_or (thn (ha pins s σ H _ I h) λc s1 r9=>?_)
 obtain⟨H1,I1,q1⟩:=r9
 cases c with
 |true=>exact⟨H1,I1,q1⟩
 |false=>exact hb wh pins s1 σ H1 Q I1 q1
theorem UR (ha:PT X a tA):PT X (.UnaryOp .Not a pos) (OL tA):=by
 intro pins s σ H Q I h
 exact isTrue_not (ha pins s σ H (λc H1=>Q (!c) H1) I h)
noncomputable def MV (ta tb:TE):TE:=λσ H Q=>ta σ H λx H1=>∃ c,x= .bl c/\if c=true then tb σ H1 Q else Q (.bl false) H1
noncomputable def NS (ta:TE):TE:=λσ H Q=>ta σ H λx H1=>∃ c,x= .bl c/\Q (.bl (!c)) H1
theorem ND {op}{t:TE}(h:PE X a t):PE X (.BoolOp op [a] pos) t:=λpins s σ H Q I hw=>BoolOp_one (h pins s σ H Q I hw)
theorem M2 (ha:PE X a ta)(hb:PE X (.BoolOp .And (b::rest) pos) tb):PE X (.BoolOp .And (a::b::rest) pos) (MV ta tb):=by
 intro pins s σ H Q I h
 refine BoolOp_and (thn (ha pins s σ H _ I h) λv s1 r9=>?_)
 obtain⟨x,H1,I1,r1,q1⟩:=r9
 obtain⟨c,rfl,q1⟩:=q1
 cases r1
 refine wpAny_truthy_bool ?_
 cases c with
 |true=>exact hb pins s1 σ H1 Q I1 q1
 |false=>exact⟨.bl false,H1,I1,rfl,q1⟩
theorem Nh (ha:PE X a ta):PE X (.UnaryOp .Not a pos) (NS ta):=by
 intro pins s σ H Q I h
 refine UnaryOp_ (thn (ha pins s σ H _ I h) λv s1 r9=>?_)
 obtain⟨x,H1,I1,r1,q1⟩:=r9
 obtain⟨c,rfl,q1⟩:=q1
 cases r1
 exact not_of (wpAny_truthy_bool ⟨.bl (!c),H1,I1,rfl,q1⟩)
noncomputable def tIf (t:TT)(ta tb:TE):TE:=λσ H Q=>t σ H λc H1=>if c=true then ta σ H1 Q else tb σ H1 Q
theorem Hl {c:Expr}(hc:PT X c tA)(ha:PE X a ta)(hb:PE X b tb):PE X (.IfExp c a b pos) (tIf tA ta tb):=by
 intro pins s σ H Q I h
 refine wpAny_IfExp (thn (hc pins s σ H _ I h) λd s1 r9=>?_)
 obtain⟨H1,I1,q1⟩:=r9
 cases d with
 |true=>exact ha pins s1 σ H1 Q I1 q1
 |false=>exact hb pins s1 σ H1 Q I1 q1
end
noncomputable def SqL (K:PySem.W.Frag)(H:Hp)(a:Addr)(xs:List V):Prop:=
 Rd H a (.lst xs)∨
  ∃(o:Obj) (its:Array Value) (n:Nat),K.lookup a=some o/\o.cls= .type "list" /\o.dict=none/\o.data= .seq its n/\its.size<=sizeLine/\Ys xs its.toList
noncomputable def SqT (K:PySem.W.Frag)(H:Hp)(a:Addr)(xs:List V):Prop:=
 Rd H a (.tup xs)∨
  ∃(o:Obj) (its:Array Value) (n:Nat),K.lookup a=some o/\o.cls= .type "tuple" /\o.data= .seq its n/\its.size<=sizeLine/\Ys xs its.toList
noncomputable def OY:Value->Option V
 | .none=>some .non
 | .bool b=>some (.bl b)
 | .int i _=>some (.int i)
 | .str x _=>some (.str x)
 | .bytes b _=>some (.byt b)
 | .float b _=>some (.flt b)
 | .ref a=>some (.ref a)
 | .type n=>some (.ty n)
 |_=>none
theorem Yo.abs {x:V}{u:Value}(r:Yo x u):OY u=some x:=by
 cases x with
 |non=>cases r;rfl
 |bl _=>cases r;rfl
 |int _=>obtain⟨t,rfl⟩:=r;rfl
 |str _=>obtain⟨t,rfl⟩:=r;rfl
 |byt _=>obtain⟨t,rfl⟩:=r;rfl
 |flt _=>obtain⟨t,rfl⟩:=r;rfl
 |ref _=>cases r;rfl
 |ty _=>cases r;rfl
theorem Yo.inj {x y:V}{u:Value}(r:Yo x u)(q:Yo y u):x=y:=Option.some.inj (r.abs.symm.trans q.abs)
theorem Ys.inj:∀{xs ys:List V}{us:List Value},Ys xs us->Ys ys us->xs=ys:=fun {xs ys us} p=>by
 induction p generalizing ys with
 |nil=>intro q;cases q;rfl
 |cons r _ ih=>intro q;cases q with |cons r' t'=>rw[r.inj r',ih t']
section
variable {X:Cx}{pins:List (Addr×Obj)}{σ:St}{H:Hp}{s:Shared}{a:Addr}{xs ys:List V}
theorem SqL.of {K:PySem.W.Frag}(h:H a=some (.lst xs)):SqL K H a xs:=.inl (.inl h)
theorem SqT.of {K:PySem.W.Frag}(h:H a=some (.tup xs)):SqT K H a xs:=.inl (.inl h)
theorem Inv.list (I:Inv X pins σ H s)(h:SqL X.K H a xs):∃its:List Value,Ys xs its/\PlainL s.heap a its.toArray/\xs.length<=sizeLine:=by
 rcases h with h | ⟨o,its,n,hk,hc,hd,hs,hz,r⟩
 ·obtain⟨z,its,n,r,e⟩:=h.ok I.hok
  exact⟨its,r,⟨_,n,e,rfl,rfl,rfl⟩,z⟩
 ·refine⟨its.toList,r,⟨o,n,I.kIn a o hk,hc,hd,by simpa using hs⟩,?_⟩
  have e:=r.length
  simp only[Array.length_toList] at e
  omega
theorem Inv.tuple (I:Inv X pins σ H s)(h:SqT X.K H a xs):∃its:List Value,Ys xs its/\IsTup s.heap a its.toArray/\xs.length<=sizeLine:=by
 rcases h with h | ⟨o,its,n,hk,hc,hs,hz,r⟩
 ·obtain⟨z,its,r,p⟩:=h.ok I.hok
  exact⟨its,r,p.t,z⟩
 ·refine⟨its.toList,r,⟨o,I.kIn a o hk,hc,n,by simpa using hs⟩,?_⟩
  have e:=r.length
  simp only[Array.length_toList] at e
  omega
theorem Inv.list_inj (I:Inv X pins σ H s)(h:SqL X.K H a xs)(h':SqL X.K H a ys):xs=ys:=by
 obtain⟨its,r,⟨o,n,e,_,_,d⟩,_⟩:=I.list h
 obtain⟨its',r',⟨o',n',e',_,_,d'⟩,_⟩:=I.list h'
 rw[e] at e';cases e'
 rw[d] at d'
 injection d' with d1 _
 have:its=its':=by simpa using congrArg Array.toList d1
 subst this
 exact r.inj r'
theorem Inv.tuple_inj (I:Inv X pins σ H s)(h:SqT X.K H a xs)(h':SqT X.K H a ys):xs=ys:=by
 obtain⟨its,r,⟨o,e,_,n,d⟩,_⟩:=I.tuple h
 obtain⟨its',r',⟨o',e',_,n',d'⟩,_⟩:=I.tuple h'
 rw[e] at e';cases e'
 rw[d] at d'
 injection d' with d1 _
 have:its=its':=by simpa using congrArg Array.toList d1
 subst this
 exact r.inj r'
end
noncomputable abbrev Cx.wish (X:Cx)(E:Value->Shared->Prop):Cx:={X with xe:=E}
noncomputable abbrev Cx.nox (X:Cx):Cx:=X.wish λ_ _=>False
theorem Cx.Ok.wish {X:Cx}(ok:X.Ok)(E:Value->Shared->Prop):(X.wish E).Ok:=
 ⟨ok.mod,ok.kind,ok.glob,ok.blt,ok.above,ok.inj,ok.has,ok.cab,ok.hd,ok.frames,ok.stk,ok.exf,ok.bs,ok.bsz,ok.noex,ok.exfs,ok.funs,ok.frf⟩
theorem Cx.Ok.unwish {X:Cx}{E:Value->Shared->Prop}(ok:(X.wish E).Ok):X.Ok:=
 ⟨ok.mod,ok.kind,ok.glob,ok.blt,ok.above,ok.inj,ok.has,ok.cab,ok.hd,ok.frames,ok.stk,ok.exf,ok.bs,ok.bsz,ok.noex,ok.exfs,ok.funs,ok.frf⟩
section
variable {X:Cx}{pins:List (Addr×Obj)}{σ:St}{H:Hp}{s:Shared}{E:Value->Shared->Prop}
theorem Inv.wish (I:Inv X pins σ H s)(E:Value->Shared->Prop):Inv (X.wish E) pins σ H s:=⟨I.ok.wish E,I.os,I.bare,I.base,I.loc,I.cell,I.free,I.freeC,I.pin,I.hok,I.len⟩
theorem Inv.unwish (I:Inv (X.wish E) pins σ H s):Inv X pins σ H s:=⟨I.ok.unwish,I.os,I.bare,I.base,I.loc,I.cell,I.free,I.freeC,I.pin,I.hok,I.len⟩
theorem SP.unwish {D:Ends}{f:Flow}{s':Shared}(h:SP (X.wish E) pins D f s'):SP X pins D f s':=by
 cases f with
 |next=>obtain⟨σ',H',I,q⟩:=h;exact⟨σ',H',I.unwish,q⟩
 |brk=>obtain⟨σ',H',I,q⟩:=h;exact⟨σ',H',I.unwish,q⟩
 |cont=>obtain⟨σ',H',I,q⟩:=h;exact⟨σ',H',I.unwish,q⟩
 |ret u=>obtain⟨v,σ',H',I,r,q⟩:=h;exact⟨v,σ',H',I.unwish,r,q⟩
theorem PE.nox {e:Expr}{t:TE}(h:PE X.nox e t):PE X e t:=λpins s σ H Q I hw=>
 wpAny_mono (h pins s σ H Q (I.wish _) hw) (λ_ _ r9=>by obtain⟨v,H',I',r,q⟩:=r9;exact⟨v,H',I'.unwish,r,q⟩) λ_ _ z=>False.elim z
theorem PT.nox {e:Expr}{t:TT}(h:PT X.nox e t):PT X e t:=λpins s σ H Q I hw=>
 wpAny_mono (h pins s σ H Q (I.wish _) hw) (λ_ _ r9=>by obtain⟨H',I',q⟩:=r9;exact⟨H',I'.unwish,q⟩) λ_ _ z=>False.elim z
theorem PSs.nox {st:List Stmt}{t:TS}(h:PSs X.nox st t):PSs X st t:=λpins s σ H D I hw=>
 wpAny_mono (h pins s σ H D (I.wish _) hw) (λ_ _ q=>q.unwish) λ_ _ z=>False.elim z
end
section
variable {X:Cx}{st:Stmt}{rest:List Stmt}{t u:TS}{e:Expr}{te:TE}{pos:Pos}
noncomputable def ED:TS:=λD σ H=>D.nx σ H
noncomputable def Vi (t u:TS):TS:=λD σ H=>t {D with nx:=u D} σ H
theorem Xf:PSs X [] ED:=λ_ _ σ H _ I h=>wpAny_execs_nil ⟨σ,H,I,h⟩
theorem Xc (h1:PS X st t)(h2:PSs X rest u):PSs X (st::rest) (Vi t u):=by
 intro pins s σ H D I h
 refine wpAny_execs_cons (thn (h1 pins s σ H {D with nx:=u D} I h) λf s1 q=>?_)
 cases f with
 |next=>
  obtain⟨σ',H',I',q⟩:=q
  exact h2 pins s1 σ' H' D I' q
 |ret v=>exact q
 |brk=>exact q
 |cont=>exact q
theorem Inv.quiet {pins:List (Addr×Obj)}{σ:St}{H:Hp}{s:Shared}(I:Inv X pins σ H s):interactive X.env=false:=by simp[interactive,I.ok.kind]
noncomputable def DY (te:TE):TS:=λD σ H=>te σ H λ_ H1=>D.nx σ H1
theorem Yl (he:PE X e te)(hs:swapsWith e none pos.line X.env=pure false:=by rfl):PS X (.Expr e pos) (DY te):=by
 intro pins s σ H D I h
 exact wpAny_Expr_any (thn (he pins s σ H _ I h) λv s1 r9=>by obtain⟨x,H1,I1,r1,q1⟩:=r9;exact⟨σ,H1,I1,q1⟩) I.quiet hs
noncomputable def OT (te:TE):TS:=λD σ H=>te σ H D.rt
theorem XC (he:PE X e te):PS X (.Return (some e) pos) (OT te):=by
 intro pins s σ H D I h
 exact wpAny_Return_some (thn (he pins s σ H _ I h) λv s1 r9=>by obtain⟨x,H1,I1,r1,q1⟩:=r9;exact⟨x,σ,H1,I1,r1,q1⟩)
noncomputable def NK (c:TT)(t u:TS):TS:=λD σ H=>c σ H λb H1=>if b=true then t D σ H1 else u D σ H1
theorem Zb {c:Expr}{a b:List Stmt}{tc:TT}(hc:PT X c tc)(ha:PSs X a t)(hb:PSs X b u):PS X (.If c a b pos) (NK tc t u):=by
 intro pins s σ H D I h
 refine wpAny_If (thn (hc pins s σ H _ I h) λd s1 r9=>?_)
 obtain⟨H1,I1,q1⟩:=r9
 cases d with
 |true=>exact ha pins s1 σ H1 D I1 q1
 |false=>exact hb pins s1 σ H1 D I1 q1
noncomputable def Nb:TS:=λ_ _ _=>False
theorem QT:PS X st Nb:=λ_ _ _ _ _ _ h=>h.elim
end
noncomputable abbrev TG:=V->St->Hp->(St->Hp->Prop)->Prop
noncomputable abbrev TGs:=List V->St->Hp->(St->Hp->Prop)->Prop
noncomputable def PG (X:Cx)(target:Expr)(t:TG):Prop:=
 ∀(pins:List (Addr×Obj)) (s:Shared) (σ:St) (H:Hp) (v:V) (u:Value) (Q:St->Hp->Prop),Inv X pins σ H s->Yo v u->t v σ H Q->
  wpAny (model X.prog X.w) X.A (assign target X.env u) (λ_ s'=>∃ σ' H',Inv X pins σ' H' s'/\Q σ' H') X.xe s
noncomputable def PGs (X:Cx)(ts:List Expr)(t:TGs):Prop:=
 ∀(pins:List (Addr×Obj)) (s:Shared) (σ:St) (H:Hp) (vs:List V) (us:List Value) (Q:St->Hp->Prop),Inv X pins σ H s->Ys vs us->t vs σ H Q->
  wpAny (model X.prog X.w) X.A (assignInOrder ((assignEach ts X.env).map (·.2)) us) (λ_ s'=>∃ σ' H',Inv X pins σ' H' s'/\Q σ' H') X.xe s
noncomputable abbrev No:=V->V->V->Hp->(Hp->Prop)->Prop
noncomputable def N5 (X:Cx)(t:No):Prop:=
 ∀(pins:List (Addr×Obj)) (s:Shared) (σ:St) (H:Hp) (o i v:V) (ov iv u:Value) (Q:Hp->Prop),Inv X pins σ H s->Yo o ov->Yo i iv->Yo v u->t o i v H Q->
  wpAny (model X.prog X.w) X.A (setItem ov iv u) (λ_ s'=>∃ H',Inv X pins σ H' s'/\Q H') X.xe s
noncomputable abbrev TIp:=V->V->Hp->VK->Prop
noncomputable def PIp (X:Cx)(op:Operator)(t:TIp):Prop:=
 ∀(pins:List (Addr×Obj)) (s:Shared) (σ:St) (H:Hp) (x y:V) (v u:Value) (Q:VK),Inv X pins σ H s->Yo x v->Yo y u->t x y H Q->
  wpAny (model X.prog X.w) X.A (inplaceOp op v u) (EP X pins σ Q) X.xe s
section
variable {X:Cx}{pos:Pos}
noncomputable def ZB (i:Nat):TG:=λv σ H Q=>Q (σ.set i (some v)) H
theorem Xl {i:Nat}{x:Str}(hN:X.N.Nodup)(hi:X.N[i]?=some x)(hx:Loc X.env.scope x)(hf:X.fn x=true∨X.env.scope.names.lookup x=some .local:=by first |exact .inl rfl |exact .inr rfl |assumption):PG X (.Name x pos) (ZB i):=by
 intro pins s σ H v u Q I r h
 exact wpAny_assign_Name (JH I hN hi hx r (λs' I'=>⟨_,H,I',h⟩) hf)
noncomputable def IV:TGs:=λvs σ H Q=>vs=[]/\Q σ H
noncomputable def Qz (t:TG)(u:TGs):TGs:=λvs σ H Q=>∃ v r,vs=v::r/\t v σ H λσ' H'=>u r σ' H' Q
theorem Y6:PGs X [] IV:=by
 intro pins s σ H vs us Q I r h
 obtain⟨e,h⟩:=h
 subst e
 cases r
 exact assignInOrder_nil ⟨σ,H,I,h⟩
theorem Xs {e:Expr}{es:List Expr}{t:TG}{u:TGs}(h1:PG X e t)(h2:PGs X es u)
  (hs:(assignEach (e::es) X.env).map (·.2)=assign e X.env::(assignEach es X.env).map (·.2):=by rfl):PGs X (e::es) (Qz t u):=by
 intro pins s σ H vs us Q I r h
 obtain⟨v,vr,e1,h⟩:=h
 subst e1
 cases r with
 |cons r rr=>
  rw[hs]
  refine assignInOrder_cons (thn (h1 pins s σ H _ _ _ I r h) λ_ s1 r9=>?_)
  obtain⟨σ1,H1,I1,q1⟩:=r9
  exact h2 pins s1 σ1 H1 _ _ Q I1 rr q1
noncomputable def Ie (K:PySem.W.Frag)(n:Nat)(t:TGs):TG:=λv σ H Q=>∃ a xs,v= .ref a/\SqT K H a xs/\xs.length=n/\t xs σ H Q
theorem QA {es:List Expr}{k:Nat}{t:TGs}{n:Nat}(hc:X.calm=true)(h:PGs X es t)
  (hn:(assignEach es X.env).length=n:=by rfl)(hst:(assignEach es X.env).findIdx? (·.1)=none:=by rfl):PG X (.Tuple es k pos) (Ie X.K n t):=by
 intro pins s σ H v u Q I r hw
 obtain⟨a,xs,e1,hq,hl,hw⟩:=hw
 subst e1
 cases r
 obtain⟨its,rv,ht,hz⟩:=I.tuple hq
 refine assign_Tuple_tuple (I.ok.hd hc) ht (by simp[hn, ←hl,rv.length]) hst λh' hx=>?_
 have I1:Inv X pins σ H {s with heap:=h'}:=I.kept (t':=s.toks) λb o e=>hx b o (Nat.ne_of_lt (Heap.lt_size e)) e
 exact h pins _ σ H xs _ Q I1 (by simpa using rv) hw
noncomputable def OB (to ti:TE)(t:No):TG:=λv σ H Q=>to σ H λo H1=>ti σ H1 λi H2=>t o i v H2 λH3=>Q σ H3
theorem Uu {o i:Expr}{to ti:TE}{t:No}(ho:PE X o to)(hi:PE X i ti)(hs:N5 X t)
  (ha:∀v,assign (.Subscript o i pos) X.env v=(do
   let ov ←holding [v] (eval o X.env)
   let iv ←holding [v,ov] (eval i X.env)
   standAt pos
   holding [v,ov,iv] (setItem ov iv v)
   release [v,ov,iv] []):=by intro _;rfl):PG X (.Subscript o i pos) (OB to ti t):=by
 intro pins s σ H v u Q I r h
 rw[ha]
 refine wpAny_bind (wpAny_holding (thn (ho pins s σ H _ I h) λov s1 r9=>?_))
 obtain⟨x,H1,I1,r1,q1⟩:=r9
 refine wpAny_bind (wpAny_holding (thn (hi pins s1 σ H1 _ I1 q1) λiv s2 r9=>?_))
 obtain⟨y,H2,I2,r2,q2⟩:=r9
 refine wpAny_bind (wpAny_standAt (wpAny_bind (wpAny_holding (thn (hs pins s2 σ H2 x y v ov iv u _ I2 r1 r2 r q2) λ_ s3 r9=>?_))))
 obtain⟨H3,I3,q3⟩:=r9
 exact wpAny_release ⟨σ,H3,I3,q3⟩
noncomputable def Ir (te:TE)(g:TG):TS:=λD σ H=>te σ H λx H1=>g x σ H1 D.nx
theorem Q8 {tg e:Expr}{te:TE}{g:TG}(he:PE X e te)(hg:PG X tg g)(hs:swapsWithSole [tg] e pos.line X.env=pure false:=by rfl)(hw:swappedStores [tg] e X.env=pure none:=by rfl)
  (h1:(assignEach [tg] X.env).map (·.2)=[assign tg X.env]:=by rfl):PS X (.Assign [tg] e pos) (Ir te g):=by
 intro pins s σ H D I h
 refine wpAny_Assign_stores (thn (he pins s σ H _ I h) λv s1 r9=>?_) hs hw
 obtain⟨x,H1,I1,r1,q1⟩:=r9
 rw[h1]
 exact thn (hg pins s1 σ H1 x v _ I1 r1 q1) λ_ s2 q=>q
theorem Xm {i:Nat}{x:Str}{e:Expr}{te:TE}{pos':Pos}(hN:X.N.Nodup)(hi:X.N[i]?=some x)(hx:Loc X.env.scope x)(he:PE X e te)(hs:swapsWith e (some (.Name x pos')) pos.line X.env=pure false:=by rfl)(hf:X.fn x=true∨X.env.scope.names.lookup x=some .local:=by first |exact .inl rfl |exact .inr rfl |assumption):
  PS X (.Assign [.Name x pos'] e pos) (Ir te (ZB i)):=by
 intro pins s σ H D I h
 refine wpAny_Assign_Name (thn (he pins s σ H _ I h) λv s1 r9=>?_) hs
 obtain⟨y,H1,I1,r1,q1⟩:=r9
 exact JH I1 hN hi hx r1 (λs2 I2=>⟨_,H1,I2,q1⟩) hf
noncomputable def OI (i j:Nat)(ta:TA):TS:=λD σ H=>ta σ H λvs H1=>∃ v w,vs=[v,w]/\D.nx ((σ.set i (some v)).set j (some w)) H1
theorem Iu {i j:Nat}{x y:Str}{a b:Expr}{ta:TA}{px py pt:Pos}{kt k2 pt2}(hc:X.calm=true)(hN:X.N.Nodup)(hi:X.N[i]?=some x)(hj:X.N[j]?=some y)(hij:i≠j)
  (hx:X.env.scope.names.lookup x=some .local)(hy:X.env.scope.names.lookup y=some .local)(ha:PA X [a,b] ta)
  (hw:swappedStores [.Tuple [.Name x px, .Name y py] kt pt] (.Tuple [a,b] k2 pt2) X.env=pure (some [x,y]))
  (hs:swapsWithSole [.Tuple [.Name x px, .Name y py] kt pt] (.Tuple [a,b] k2 pt2) pos.line X.env=pure false:=by rfl):
  PS X (.Assign [.Tuple [.Name x px, .Name y py] kt pt] (.Tuple [a,b] k2 pt2) pos) (OI i j ta):=by
 intro pins s σ H D I h
 rw[exec_Assign_arm]
 refine wpAny_bind (wpAny_standAt ?_)
 rw[hs]
 refine wpAny_bind (wpAny_pure ?_)
 rw[if_neg (by decide)]
 refine wpAny_bind (Tuple_ (thn (ha _ pins s σ H _ I h) λus s1 r9=>?_))
 obtain⟨vs,H1,I1,r1,q1⟩:=r9
 obtain⟨v,w,e1,q1⟩:=q1
 subst e1
 obtain⟨u1,u2,rfl,rv,rw'⟩:∃u1 u2,us=[u1,u2]/\Yo v u1/\Yo w u2:=by
  cases r1 with
  |cons p q=>
   cases q with
   |cons p' q'=>
    cases q'
    exact⟨_,_,rfl,p,p'⟩
 refine wpAny_newObj_type ?_ (by show 2<=sizeLine;decide)
 have I2:Inv X pins σ H1 {s1 with heap:=s1.heap.push {cls:=.type "tuple",data:=.seq [u1,u2].toArray}}:=I1.kept (t':=s1.toks) λb o e=>Heap.get?_push_of_some _ e
 rw[hw]
 refine wpAny_bind (wpAny_pure ?_)
 show wpAny (model X.prog X.w) X.A (do rule "assign.swapped-stores";let items ←unpackItems (.ref s1.heap.objs.size) 2 none;assignInOrder [λv=>bindName X.env y v,λv=>bindName X.env x v] items.reverse;pure Flow.next) _ _ _
 refine wpAny_bind (wpAny_rule (wpAny_bind (unpackItems_tuple (items:=#[u1,u2]) (I.ok.hd hc) (IsTup.new s1.heap _) λh' hx'=>?_)))
 have I3:=I2.kept (h':=h') (t':=s1.toks) λb o e=>hx' b o (Nat.ne_of_lt (Heap.lt_size e)) e
 show wpAny _ _ (assignInOrder [λv=>bindName X.env y v,λv=>bindName X.env x v] [u2,u1] >>= λ_=>pure Flow.next) _ _ _
 refine wpAny_bind (assignInOrder_cons (wpAny_bindName (JH I3 hN hj (.inl hy) rw' (λs2 I4=>?_) (.inr hy))))
 refine assignInOrder_cons (wpAny_bindName (JH I4 hN hi (.inl hx) rv (λs3 I5=>assignInOrder_nil (wpAny_pure ?_)) (.inr hx)))
 rw[List.set_comm _ _ (Ne.symm hij)] at I5
 exact⟨_,H1,I5,q1⟩
noncomputable def NZ (i:Nat)(te:TE)(ti:TIp):TS:=λD σ H=>∃ x,σ[i]?=some (some x)/\te σ H λy H1=>ti x y H1 λz H2=>D.nx (σ.set i (some z)) H2
theorem UM {i:Nat}{x:Str}{e:Expr}{te:TE}{op:Operator}{ti:TIp}{pos':Pos}(hN:X.N.Nodup)(hi:X.N[i]?=some x)(hx:Loc X.env.scope x)(he:PE X e te)(ho:PIp X op ti)(hf:X.fn x=true∨X.env.scope.names.lookup x=some .local:=by first |exact .inl rfl |exact .inr rfl |assumption):
  PS X (.AugAssign (.Name x pos') op e pos) (NZ i te ti):=by
 intro pins s σ H D I h
 obtain⟨v,e1,h⟩:=h
 obtain⟨m,hn,hl⟩:=I.loc
 have vis:Vis X.env.scope x:=by rcases hx with k |k;exact .inl k;exact .inr (.inl k)
 obtain⟨u,r,l⟩:=hl i x v hi e1 vis
 refine wpAny_AugAssign_Name ?_
 have go:wpAny (model X.prog X.w) X.A (eval e X.env) (λw s₂=>wpAny (model X.prog X.w) X.A (inplaceOp op u w) (λr s₃=>wpAny (model X.prog X.w) X.A (storeName X.env x r) (λ_=>SP X pins D .next) X.xe s₃) X.xe s₂) X.xe s:=by
  refine thn (he pins s σ H _ I h) λw s1 r9=>?_
  obtain⟨y,H1,I1,r1,q1⟩:=r9
  refine thn (ho pins s1 σ H1 v y u w _ I1 r r1 q1) λz s2 r9=>?_
  obtain⟨zv,H2,I2,r2,q2⟩:=r9
  exact JH I2 hN hi hx r2 (λs3 I3=>⟨_,H2,I3,q2⟩) hf
 rcases l with⟨hk,hm⟩ | ⟨hk,c,hc,hcell⟩
 ·exact wpAny_loadName_local I.ok.kind hk hn hm go
 ·rcases hk with hk |hk
  ·exact wpAny_loadName_cell I.ok.kind hk hc hcell go
  ·rcases hx with k |k
   ·have:X.env.scope.names.lookup x=some .free:=hk
    rw[k] at this;cases this
   ·have:X.env.scope.names.lookup x=some .free:=hk
    rw[k] at this;cases this
noncomputable def Nx (to ti te:TE)(tget:V->V->Hp->VK->Prop)(tip:TIp)(tset:No):TS:=λD σ H=>to σ H λo H1=>ti σ H1 λi H2=>tget o i H2 λx H3=>te σ H3 λy H4=>tip x y H4 λz H5=>tset o i z H5 λH6=>D.nx σ H6
noncomputable def ON (X:Cx)(t:V->V->Hp->VK->Prop):Prop:=
 ∀(pins:List (Addr×Obj)) (s:Shared) (σ:St) (H:Hp) (o i:V) (ov iv:Value) (Q:VK),Inv X pins σ H s->Yo o ov->Yo i iv->t o i H Q->
  wpAny (model X.prog X.w) X.A (getItem ov iv) (EP X pins σ Q) X.xe s
theorem GG {o i e:Expr}{to ti te:TE}{tget:V->V->Hp->VK->Prop}{tip:TIp}{tset:No}{op:Operator}{tpos:Pos}(ho:PE X o to)(hi:PE X i ti)(hg:ON X tget)(he:PE X e te)(hp:PIp X op tip)(hs:N5 X tset)
  (ha:∀ov iv new,augStore i ov iv new=(do holding [new,ov,iv] (setItem ov iv new);release [new,ov,iv] [];pure .next):=by intros;rfl):PS X (.AugAssign (.Subscript o i tpos) op e pos) (Nx to ti te tget tip tset):=by
 intro pins s σ H D I h
 refine wpAny_AugAssign_SubscriptAny (thn (ho pins s σ H _ I h) λov s1 r9=>?_) ha
 obtain⟨x1,H1,I1,r1,q1⟩:=r9
 refine thn (hi pins s1 σ H1 _ I1 q1) λiv s2 r9=>?_
 obtain⟨x2,H2,I2,r2,q2⟩:=r9
 refine thn (hg pins s2 σ H2 x1 x2 ov iv _ I2 r1 r2 q2) λold s3 r9=>?_
 obtain⟨x3,H3,I3,r3,q3⟩:=r9
 refine thn (he pins s3 σ H3 _ I3 q3) λv s4 r9=>?_
 obtain⟨x4,H4,I4,r4,q4⟩:=r9
 refine thn (hp pins s4 σ H4 x3 x4 old v _ I4 r3 r4 q4) λnew s5 r9=>?_
 obtain⟨x5,H5,I5,r5,q5⟩:=r9
 exact thn (hs pins s5 σ H5 x1 x2 x5 ov iv new _ I5 r1 r2 r5 q5) λ_ s6 r9=>by obtain⟨H6,I6,q6⟩:=r9;exact⟨σ,H6,I6,q6⟩
noncomputable def ipI (f:Int->Int->Int):TIp:=λx y H Q=>∃ i j,x= .int i/\y= .int j/\Q (.int (f i j)) H
theorem Gm:PIp X .Add (ipI λi j=>i+j):=by
 intro pins s σ H x y v u Q I r1 r2 h
 obtain⟨i,j,e1,e2,q⟩:=h
 subst e1;subst e2
 obtain⟨t,rfl⟩:=r1
 obtain⟨t',rfl⟩:=r2
 exact iadd_int ⟨.int _,H,I.tok _,⟨_,rfl⟩,q⟩
theorem NB:PIp X .Sub (ipI λi j=>i-j):=by
 intro pins s σ H x y v u Q I r1 r2 h
 obtain⟨i,j,e1,e2,q⟩:=h
 subst e1;subst e2
 obtain⟨t,rfl⟩:=r1
 obtain⟨t',rfl⟩:=r2
 exact isub_int ⟨.int _,H,I.tok _,⟨_,rfl⟩,q⟩
end
section
variable {X:Cx}{pos:Pos}
noncomputable def Cp (c:TT)(tb:TS):TS:=λD σ H=>∃ W:Nat->St->Hp->Prop,(∃m,W m σ H)/\∀m σ H,W m σ H->
 c σ H λb H1=>if b=true then ∃N:St->Hp->Prop,(∀σ' H',N σ' H'->∃m',m'<m/\W m' σ' H')/\tb {D with nx:=N,ct:=N,bk:=D.nx} σ H1 else D.nx σ H1
theorem VJ {c:Expr}{body:List Stmt}{tc:TT}{tb:TS}(hp:PassesOwn (model X.prog X.w) X.A X.env X.xe)(hc:PT X c tc)(hb:PSs X body tb):PS X (.While c body [] pos) (Cp tc tb):=by
 intro pins s σ H D I h
 obtain⟨W,⟨m0,w0⟩,turn⟩:=h
 refine wpAny_While (codeAny_whileLoop (λn s'=>∃ σ' H',Inv X pins σ' H' s'/\W n σ' H') ?_ m0 ⟨σ,H,I,w0⟩)
 rintro n s1 ⟨σ1,H1,I1,w1⟩
 refine wpAny_passesOwn hp (thn (hc pins s1 σ1 H1 _ I1 (turn n σ1 H1 w1)) λb s2 r9=>?_)
 obtain⟨H2,I2,q2⟩:=r9
 cases b with
 |true=>
  obtain⟨N,hN,q2⟩:=q2
  rw[if_pos rfl]
  refine wpAny_passesOwn hp (thn (hb pins s2 σ1 H2 _ I2 q2) λf s3 q3=>?_)
  cases f with
  |next=>
   obtain⟨σ3,H3,I3,n3⟩:=q3
   obtain⟨m',hm,w3⟩:=hN σ3 H3 n3
   exact⟨m',hm,σ3,H3,I3,w3⟩
  |cont=>
   obtain⟨σ3,H3,I3,n3⟩:=q3
   obtain⟨m',hm,w3⟩:=hN σ3 H3 n3
   exact⟨m',hm,σ3,H3,I3,w3⟩
  |brk=>exact q3
  |ret v=>exact q3
 |false=>
  rw[if_neg Bool.false_ne_true]
  exact wpAny_execs_nil ⟨σ1,H2,I2,q2⟩
end
structure It where
 go:Nat->Hp->Prop
 yld:Nat->Hp->V->Hp->Prop
 stop:Nat->Hp->Prop
noncomputable def GE (X:Cx)(pins:List (Addr×Obj))(H:Hp)(b:Addr):Prop:=
 H b=none/\b≠X.env.locals/\b∉X.fs/\(b∈X.ex∨X.s₀.heap.objs.size<=b)/\(∀x c,X.env.cells.lookup x=some c->c≠b)/\∀p∈X.pn++pins,p.1≠b
theorem Inv.fpOk {X:Cx}{pins:List (Addr×Obj)}{σ:St}{H H':Hp}{s:Shared}{b:Addr}(I:Inv X pins σ H s)(hb:s.heap.objs.size<=b)(hn:H' b=none):GE X pins H' b:=by
 refine⟨hn,Nat.ne_of_gt (Nat.lt_of_lt_of_le I.lt hb),I.nofs hb, .inr (Nat.le_trans I.sz hb),λx c e z=>?_,λp hp z=>?_⟩
 ·obtain⟨v,q⟩:=I.cell x c e
  exact absurd (Nat.lt_of_lt_of_le q.lt (by rw[z];exact hb)) (Nat.lt_irrefl _)
 ·exact absurd (Nat.lt_of_lt_of_le (Heap.lt_size (I.pin p hp).1) (by rw[z];exact hb)) (Nat.lt_irrefl _)
structure Turn (P:Program)(w:World)(K:PySem.W.Frag)(tg:Expr)(J:It)(fp:List Addr)(it:Addr)(tn:Nat->Heap->Prop):Prop where
 mem:it∈fp
 obj:∀i h,tn i h->∀b∈fp,∃o,h.get? b=some o/\∀v,o.data≠ .cell v
 keep:∀i h h',tn i h->(∀b∈fp,∀o,h.get? b=some o->h'.get? b=some o)->tn i h'
 item:∀(X:Cx),X.prog=P->X.w=w->X.K=K->X.calm=true->∀(i:Nat) (pins:List (Addr×Obj)) (s:Shared) (σ:St) (H:Hp) (E:Value->Shared->Prop),Inv X pins σ H s->(∀b∈fp,GE X pins H b)->tn i s.heap->J.go i H->
  wpAny (model P w) X.A (pyNext (.ref it)) (λr s1=>∃ u,r=some u/\
   wpAny (model P w) X.A (letOwnedTupleGo tg (.ref it) u) (λ_ s2=>∃ x H',Inv X pins σ H' s2/\Yo x u/\J.yld i H x H'/\tn (i+1) s2.heap/\∀b∈fp,H' b=none) E s1) E s
 done:∀(X:Cx),X.prog=P->X.w=w->X.K=K->X.calm=true->∀(i:Nat) (pins:List (Addr×Obj)) (s:Shared) (σ:St) (H:Hp) (E:Value->Shared->Prop),Inv X pins σ H s->(∀b∈fp,GE X pins H b)->tn i s.heap->J.stop i H->
  wpAny (model P w) X.A (pyNext (.ref it)) (λr s1=>r=none/\Inv X pins σ H s1) E s
 self:∀(A:Around) (i:Nat) (s:Shared) (Q:Value->Shared->Prop) (E:Value->Shared->Prop),tn i s.heap->Q (.ref it) s->wpAny (model P w) A (pyIter (.ref it)) Q E s
noncomputable abbrev TI:=St->Hp->(It->Hp->Prop)->Prop
noncomputable def PIE (X:Cx)(pins:List (Addr×Obj))(σ:St)(tg:Expr)(R:It->Hp->Prop)(itv:Value)(s2:Shared):Prop:=
 ∃(it:Addr) (fp:List Addr) (tn:Nat->Heap->Prop) (J:It) (H':Hp),itv= .ref it/\Inv X pins σ H' s2/\Turn X.prog X.w X.K tg J fp it tn/\tn 0 s2.heap/\(∀b∈fp,GE X pins H' b)/\R J H'
noncomputable def PI (X:Cx)(tg iter:Expr)(wi:TI):Prop:=
 ∀(pins:List (Addr×Obj)) (s:Shared) (σ:St) (H:Hp) (R:It->Hp->Prop),Inv X pins σ H s->wi σ H R->
  wpAny (model X.prog X.w) X.A (eval iter X.env) (λv s1=>wpAny (model X.prog X.w) X.A (pyIter v) (PIE X pins σ tg R) X.xe s1) X.xe s
theorem NV {M:Model}{A:Around}{E:Value->Shared->Prop}{s:Shared}{tg:Expr}{it:Addr}{u:Value}{o:Obj}{n:String}{vs:Array Value}{Q:Unit->Shared->Prop}(ho:s.heap.get? it=some o)(hc:o.cls= .type n)(hd:o.data= .fields vs)
    (hn: ["enumerate","zip","dict_itemiterator","dict_reverseitemiterator","odict_iterator","itertools.zip_longest","itertools.pairwise"].contains n=false)(hQ:Q () s):wpAny M A (letOwnedTupleGo tg (.ref it) u) Q E s:=by
  unfold letOwnedTupleGo
  cases tg<;> first
    |exact wpAny_pure hQ
    | (cases u<;> first
        |exact wpAny_pure hQ
        | (refine wpAny_bind (wpAny_load ho ?_)
           rw[hc,hd]
           show wpAny M A (if(["enumerate","zip","dict_itemiterator","dict_reverseitemiterator","odict_iterator","itertools.zip_longest","itertools.pairwise"].contains n&&vs[0]?==some (rawInt _))=true then _ else _) Q E s
           rw[if_neg (by intro h;rw[hn,Bool.false_and] at h;cases h)]
           exact wpAny_pure hQ))
noncomputable def Itl (K:PySem.W.Frag)(a:Addr):It:=
 ⟨λi H=>∃ xs x,SqL K H a xs/\xs[i]?=some x,λi H x H'=>H'=H/\∀xs,SqL K H a xs->xs[i]?=some x,λi H=>∃ xs,SqL K H a xs/\xs.length<=i⟩
noncomputable def Itr (lo:Int)(n:Nat):It:=⟨λi _=>i<n,λi H x H'=>H'=H/\x= .int (lo+i),λi _=>n<=i⟩
theorem CG {P:Program}{w:World}{K:PySem.W.Frag}{tg:Expr}(a it:Addr):Turn P w K tg (Itl K a) [it] it (λi h=>h.IsListIter it a i) where
 mem:=by simp
 obj:=λi h st b hb=>by
  have e:b=it:=by simpa using hb
  subst e
  obtain⟨o,e,c,d⟩:=st
  exact⟨o,e,λv z=>by rw[d] at z;cases z⟩
 keep:=λi h h' st k=>st.at λo e=>k it (by simp) o e
 item:=by
  intro X hP hw hK hc i pins s σ H E I hf st hg
  subst hP hw hK
  obtain⟨xs,x,hq,hx⟩:=hg
  obtain⟨its,rv,p,hz⟩:=I.list hq
  obtain⟨u,hu,ru⟩:=rv.get hx
  obtain⟨f0,f1,f2,f3,f4,f5⟩:=hf it (by simp)
  refine wpAny_pyNext_list_item st p.isList (x:=u) (by simpa using hu) λh' st' sb=>?_
  have I1:Inv X pins σ H {s with heap:=h'}:=I.turned (t':=s.toks) (λb o hb e=>(sb.2 b hb).trans e) f0 f1 f3 f4 f5
  obtain⟨o,e,c,d⟩:=id st'
  exact⟨u,rfl,NV (s:={s with heap:=h'}) e c d (by decide) ⟨x,H,I1,ru,⟨rfl,λys hy=>by rw[I.list_inj hy hq];exact hx⟩,st',λb hb=>(hf b hb).1⟩⟩
 done:=by
  intro X hP hw hK hc i pins s σ H E I hf st hg
  subst hP hw hK
  obtain⟨xs,hq,hx⟩:=hg
  obtain⟨its,rv,p,hz⟩:=I.list hq
  obtain⟨f0,f1,f2,f3,f4,f5⟩:=hf it (by simp)
  have hl:=rv.length
  exact wpAny_pyNext_list_end (I.ok.hd hc) st p.isList (by simp;omega) λh' eb=>⟨rfl,I.turned (t':=s.toks) (λb o hb e=>eb b o hb e) f0 f1 f3 f4 f5⟩
 self:=λ_ _ _ _ _ st h=>wpAny_pyIter_listiter st h
theorem D0 {P:Program}{w:World}{K:PySem.W.Frag}{tg:Expr}(it:Addr)(lo:Int)(n:Nat):Turn P w K tg (Itr lo n) [it] it (λi h=>IsRangeIter h it (lo+(i:Nat)*1) ((n:Int)-(i:Nat)) 1) where
 mem:=by simp
 obj:=λi h st b hb=>by
  have e:b=it:=by simpa using hb
  subst e
  exact⟨_,st,λv z=>by
   have z':Data.fields _=Data.cell v:=z
   cases z'⟩
 keep:=λi h h' st k=>k it (by simp) _ st
 item:=by
  intro X hP hw hK hc i pins s σ H E I hf st hg
  subst hP hw hK
  obtain⟨f0,f1,f2,f3,f4,f5⟩:=hf it (by simp)
  have W:=Walks.range (prog:=X.prog) (w:=X.w) (I.ok.hd hc) it lo 1 n
  refine W.item i s _ _ hg st λv h' tk hv st' kk=>?_
  obtain⟨t,rfl⟩:=hv
  have I1:Inv X pins σ H {s with heap:=h',toks:=tk}:=I.turned (λb o hb e=>kk b o (by simpa using hb) e) f0 f1 f3 f4 f5
  refine⟨_,rfl,NV (s:={s with heap:=h',toks:=tk}) (n:="range_iterator") st' rfl rfl (by decide) ⟨.int (lo+i),H,I1,⟨t,?_⟩,⟨rfl,rfl⟩,st',λb hb=>(hf b hb).1⟩⟩
  rw[Int.mul_one]
 done:=by
  intro X hP hw hK hc i pins s σ H E I hf st hg
  subst hP hw hK
  obtain⟨f0,f1,f2,f3,f4,f5⟩:=hf it (by simp)
  exact wpAny_pyNext_range_end (I.ok.hd hc) st (by have:n<=i:=hg;omega) λh' eb=>⟨rfl,I.turned (t':=s.toks) (λb o hb e=>eb b o hb e) f0 f1 f3 f4 f5⟩
 self:=λ_ _ _ _ _ st h=>wpAny_pyIter_rangeiter st h
section
variable {X:Cx}{tg:Expr}
noncomputable def LS (K:PySem.W.Frag)(tl:TE):TI:=λσ H R=>tl σ H λx H1=>∃ a,x= .ref a/\(∃xs,SqL K H1 a xs)/\R (Itl K a) H1
theorem LM {l:Expr}{tl:TE}(hl:PE X l tl):PI X tg l (LS X.K tl):=by
 intro pins s σ H R I h
 refine thn (hl pins s σ H _ I h) λv s1 r9=>?_
 obtain⟨x,H1,I1,r1,q1⟩:=r9
 obtain⟨a,e,⟨xs,hq⟩,q⟩:=q1
 subst e
 cases r1
 obtain⟨its,rv,p,hz⟩:=I1.list hq
 refine wpAny_pyIter_list p.isList ?_
 refine⟨s1.heap.objs.size,[s1.heap.objs.size],_,_,H1,rfl,I1.kept (t':=s1.toks) λb o e=>Heap.get?_push_of_some _ e,CG a _,⟨_,Heap.get?_push_size _ rfl,rfl,rfl⟩,λb hb=>?_,q⟩
 have e:b=s1.heap.objs.size:=by simpa using hb
 subst e
 exact I1.fpOk (Nat.le_refl _) (I1.hok.fresh (Nat.le_refl _))
theorem HK {pins:List (Addr×Obj)}{σ:St}{H:Hp}{s:Shared}{R:It->Hp->Prop}{E:Value->Shared->Prop}{lo hi:Int}{t u v:Tok}{tk:Nat}(I:Inv X pins σ H s)(h1: -(2^62)<=lo)(h2:lo<2^62)(h3: -(2^62)<=hi)(h4:hi<2^62)
  (q:R (Itr lo (hi-lo).toNat) H):wpAny (model X.prog X.w) X.A (pyIter (.ref s.heap.objs.size)) (PIE X pins σ tg R) E {s with heap:=s.heap.push {cls:=.type "range",data:=.fields #[.int lo t, .int hi u, .int 1 v]},toks:=tk}:=by
 refine wpAny_pyIter_range (IsRange.new ..) (small_one h1 h2 h3 h4) ?_
 have I1:Inv X pins σ H {s with heap:=s.heap.push {cls:=.type "range",data:=.fields #[.int lo t, .int hi u, .int 1 v]},toks:=tk}:=I.kept λb o e=>Heap.get?_push_of_some _ e
 refine⟨(s.heap.push {cls:=.type "range",data:=.fields #[.int lo t, .int hi u, .int 1 v]}).objs.size,[(s.heap.push {cls:=.type "range",data:=.fields #[.int lo t, .int hi u, .int 1 v]}).objs.size],_,_,H,rfl,
  I1.kept (t':=tk) λb o e=>Heap.get?_push_of_some _ e,D0 _ lo (hi-lo).toNat,?_,λb hb=>?_,q⟩
 ·have e1:lo+((0:Nat):Int)*1=lo:=by simp
  have e2:(((hi-lo).toNat:Nat):Int)-((0:Nat):Int)=Builtin.Range.rangeSize lo hi 1:=by rw[rangeSize_one];split<;> omega
  show IsRangeIter _ _ (lo+((0:Nat):Int)*1) ((((hi-lo).toNat:Nat):Int)-((0:Nat):Int)) 1
  rw[e1,e2]
  exact Heap.get?_push_size _ rfl
 ·have e:b=(s.heap.push {cls:= .type "range",data:= .fields #[.int lo t, .int hi u, .int 1 v]}).objs.size:=by simpa using hb
  subst e
  exact I1.fpOk (Nat.le_refl _) (I1.hok.fresh (Nat.le_refl _))
noncomputable def MX (ta:TA):TI:=λσ H R=>ta σ H λvs H1=>∃ j:Int,vs=[.int j]/\ -(2^62)<=j/\j<2^62/\R (Itr 0 j.toNat) H1
theorem XR {a:Expr}{ta:TA}{p pos:Pos}(hg:Gl X "range")(hm:X.mg "range" =none)(ha:PA X [a] ta)(hs:starEach [a] X.env=[(false,eval a X.env)]:=by rfl):PI X tg (.Call (.Name "range" p) [a] [] pos) (MX ta):=by
 intro pins s σ H R I h
 refine Call_ (U2 I hg hm boot_range (PyProof.Rows.callWith_type1 (thn (ha pos pins s σ H _ I h) λus s1 r9=>?_) hs rfl))
 obtain⟨vs,H1,I1,r1,q1⟩:=r9
 obtain⟨j,e,q1,q2,q⟩:=q1
 subst e
 cases r1 with
 |cons r rr=>
  cases rr
  obtain⟨t,rfl⟩:=r
  exact call_range_1 (HK I1 (by omega) (by omega) q1 q2 (by simpa using q))
noncomputable def Of (wi:TI)(g:TG)(tb:TS):TS:=λD σ H=>wi σ H λJ H1=>∃ W:Nat->Nat->St->Hp->Prop,(∃m,W 0 m σ H1)/\∀i m σ H,W i m σ H->
 (J.stop i H/\D.nx σ H)∨(J.go i H/\∃N:St->Hp->Prop,(∀σ' H',N σ' H'->∃m',m'<m/\W (i+1) m' σ' H')/\∀x H',J.yld i H x H'->g x σ H' λσ2 H2=>tb {D with nx:=N,ct:=N,bk:=D.nx} σ2 H2)
noncomputable def KQ (fp:List Addr)(h:Heap):List (Addr×Obj):=fp.filterMap λb=>(h.get? b).map λo=>(b,o)
theorem J9 {fp:List Addr}{h:Heap}{b:Addr}{o:Obj}(hb:b∈fp)(e:h.get? b=some o):(b,o)∈KQ fp h:=List.mem_filterMap.mpr ⟨b,hb,by rw[e];rfl⟩
theorem Eo {fp:List Addr}{h:Heap}{p:Addr×Obj}(hp:p∈KQ fp h):p.1∈fp/\h.get? p.1=some p.2:=by
 obtain⟨b,hb,e⟩:=List.mem_filterMap.mp hp
 cases q:h.get? b with
 |none=>rw[q] at e;cases e
 |some o=>
  rw[q] at e
  have e':(b,o)=p:=Option.some.inj e
  subst e'
  exact⟨hb,q⟩
theorem Inv.pinned {pins:List (Addr×Obj)}{σ:St}{H:Hp}{s:Shared}{fp:List Addr}(I:Inv X pins σ H s)(hf:∀b∈fp,GE X pins H b)(ho:∀b∈fp,∃o,s.heap.get? b=some o/\∀v,o.data≠ .cell v):Inv X (pins++KQ fp s.heap) σ H s:=
 I.pins_of λp hp=>(List.mem_append.mp hp).elim (λz=>I.pin p (List.mem_append_right _ z)) λz=>by
  obtain⟨hb,e⟩:=Eo z
  obtain⟨f0,f1,f2,_⟩:=hf p.1 hb
  obtain⟨o,e',d⟩:=ho p.1 hb
  rw[e] at e';cases e'
  exact⟨e,f0,f1,f2,d⟩
theorem Inv.unpinned {pins pl:List (Addr×Obj)}{σ:St}{H:Hp}{s:Shared}(I:Inv X (pins++pl) σ H s):Inv X pins σ H s:=I.pins_of λp hp=>I.pin p (List.mem_append_right _ (List.mem_append_left _ hp))
theorem X6 {iter:Expr}{body:List Stmt}{wi:TI}{g:TG}{tb:TS}{pos:Pos}(hp:PassesOwn (model X.prog X.w) X.A X.env X.xe)(hc:X.calm=true)(hi:PI X tg iter wi)(hg:PG X tg g)(hb:PSs X body tb)
  (hs:∀x,foldedSetIterable iter X.env x=pure x:=by intro _;rfl):PS X (.For tg iter body [] pos) (Of wi g tb):=by
 intro pins s σ H D I h
 refine wpAny_For (thn (hi pins s σ H _ I h) λv s1 h1=>thn h1 λitv s2 h2=>?_) hs
 obtain⟨it,fp,tn,J,H2,e,I2,T,st2,f2,W,⟨m0,w0⟩,turn⟩:=h2
 subst e
 -- what stays true of the iterator's objects through the loop
 have stat:∀{H':Hp},(∀b∈fp,H' b=none)->∀b∈fp,GE X pins H' b:=λhn b hb=>⟨hn b hb,(f2 b hb).2⟩
 refine codeAny_forLoop_any (λn s'=>∃ i σ' H',Inv X pins σ' H' s'/\tn i s'.heap/\(∀b∈fp,H' b=none)/\W i n σ' H') ?_ m0 ⟨0,σ,H2,I2,st2,λb hb=>(f2 b hb).1,w0⟩
 rintro n s3 ⟨i,σ3,H3,I3,st3,fr3,w3⟩
 rcases turn i n σ3 H3 w3 with⟨stop,qn⟩ | ⟨go,N,hN,step⟩
 ·refine wpAny_passesOwn hp (thn (T.done X rfl rfl rfl hc i pins s3 σ3 H3 X.xe I3 (stat fr3) st3 stop) λr s4 r9=>?_)
  obtain⟨hr,I4⟩:=r9
  subst hr
  exact wpAny_execs_nil ⟨σ3,H3,I4,qn⟩
 ·refine wpAny_passesOwn hp (thn (T.item X rfl rfl rfl hc i pins s3 σ3 H3 X.xe I3 (stat fr3) st3 go) λr s4 r9=>?_)
  obtain⟨u,hr,h4⟩:=r9
  subst hr
  refine wpAny_passesOwn hp (thn h4 λ_ s5 r9=>?_)
  obtain⟨x,H5,I5,r5,y5,st5,fr5⟩:=r9
  have I5':=I5.pinned (stat fr5) (T.obj _ _ st5)
  refine wpAny_passesOwn hp (thn (hg _ s5 σ3 H5 x u _ I5' r5 (step x H5 y5)) λ_ s6 r9=>?_)
  obtain⟨σ6,H6,I6,q6⟩:=r9
  refine wpAny_passesOwn hp (thn (hb _ s6 σ6 H6 _ I6 q6) λf s7 q7=>?_)
  have again:∀{σ7:St}{H7:Hp},Inv X (pins++KQ fp s5.heap) σ7 H7 s7->N σ7 H7->∃m,m<n/\∃i σ' H',Inv X pins σ' H' s7/\tn i s7.heap/\(∀b∈fp,H' b=none)/\W i m σ' H':=fun {σ7 H7} I7 n7=>by
   obtain⟨m',hm,w7⟩:=hN σ7 H7 n7
   refine⟨m',hm,i+1,σ7,H7,I7.unpinned,T.keep _ _ _ st5 λb hb o e=>(I7.pin (b,o) (List.mem_append_right _ (List.mem_append_right _ (J9 hb e)))).1,λb hb=>?_,w7⟩
   obtain⟨o,e,d⟩:=T.obj _ _ st5 b hb
   exact(I7.pin (b,o) (List.mem_append_right _ (List.mem_append_right _ (J9 hb e)))).2.1
  cases f with
  |next=>obtain⟨σ7,H7,I7,n7⟩:=q7;exact again I7 n7
  |cont=>obtain⟨σ7,H7,I7,n7⟩:=q7;exact again I7 n7
  |brk=>obtain⟨σ7,H7,I7,q7⟩:=q7;exact⟨σ7,H7,I7.unpinned,q7⟩
  |ret v=>obtain⟨x7,σ7,H7,I7,r7,q7⟩:=q7;exact⟨x7,σ7,H7,I7.unpinned,r7,q7⟩
end
noncomputable abbrev R2:=V->V->Hp->VK->Prop
noncomputable def OpR (X:Cx)(f:Value->Value->Sem Value)(r:R2):Prop:=
 ∀(pins:List (Addr×Obj)) (s:Shared) (σ:St) (H:Hp) (x y:V) (v u:Value) (Q:VK),Inv X pins σ H s->Yo x v->Yo y u->r x y H Q->
  wpAny (model X.prog X.w) X.A (f v u) (EP X pins σ Q) X.xe s
noncomputable def UnR (X:Cx)(f:Value->Sem Value)(r:V->Hp->VK->Prop):Prop:=
 ∀(pins:List (Addr×Obj)) (s:Shared) (σ:St) (H:Hp) (x:V) (v:Value) (Q:VK),Inv X pins σ H s->Yo x v->r x H Q->
  wpAny (model X.prog X.w) X.A (f v) (EP X pins σ Q) X.xe s
noncomputable def QK (X:Cx)(f:Value)(r:List V->Hp->VK->Prop):Prop:=
 ∀(pins:List (Addr×Obj)) (s:Shared) (σ:St) (H:Hp) (xs:List V) (us:List Value) (Q:VK),Inv X pins σ H s->Ys xs us->r xs H Q->
  wpAny (model X.prog X.w) X.A (call f us) (EP X pins σ Q) X.xe s
noncomputable def tOp (r:R2)(ta tb:TE):TE:=λσ H Q=>ta σ H λx H1=>tb σ H1 λy H2=>r x y H2 Q
noncomputable def tUn (r:V->Hp->VK->Prop)(ta:TE):TE:=λσ H Q=>ta σ H λx H1=>r x H1 Q
noncomputable def rI (C:Int->Int->Prop)(g:Int->Int->V):R2:=λx y H Q=>∃ i j,x= .int i/\y= .int j/\C i j/\Q (g i j) H
noncomputable def rI0 (g:Int->Int->V):R2:=λx y H Q=>∃ i j,x= .int i/\y= .int j/\Q (g i j) H
noncomputable def rU (g:Int->V):V->Hp->VK->Prop:=λx H Q=>∃ i,x= .int i/\Q (g i) H
section
variable {X:Cx}{a b c:Expr}{ta tb tc:TE}{pos:Pos}
theorem Os (ha:PE X a ta)(hb:PE X b tb){pins:List (Addr×Obj)}{s:Shared}{σ:St}{H:Hp}{R:V->V->Hp->Prop}(I:Inv X pins σ H s)
  (h:ta σ H λx H1=>tb σ H1 λy H2=>R x y H2){Q:Value->Shared->Prop}{f:Value->Value->Sem Value}
  (hf:∀v u s2 x y H2,Inv X pins σ H2 s2->Yo x v->Yo y u->R x y H2->wpAny (model X.prog X.w) X.A (f v u) Q X.xe s2):
  wpAny (model X.prog X.w) X.A (eval a X.env) (λv s₁=>wpAny (model X.prog X.w) X.A (eval b X.env) (λu s₂=>wpAny (model X.prog X.w) X.A (f v u) Q X.xe s₂) X.xe s₁) X.xe s:=by
 refine thn (ha pins s σ H _ I h) λv s1 r9=>?_
 obtain⟨x,H1,I1,r1,q1⟩:=r9
 refine thn (hb pins s1 σ H1 _ I1 q1) λu s2 r9=>?_
 obtain⟨y,H2,I2,r2,q2⟩:=r9
 exact hf v u s2 x y H2 I2 r1 r2 q2
theorem Xq {op:Operator}{r:R2}(ho:OpR X (binaryOp op) r)(ha:PE X a ta)(hb:PE X b tb):PE X (.BinOp a op b pos) (tOp r ta tb):=by
 intro pins s σ H Q I h
 exact wpAny_BinOp (Os ha hb I h λv u s2 x y H2 I2 rx ry q=>ho pins s2 σ H2 x y v u Q I2 rx ry q)
theorem Up {op:UnaryOp}{r:V->Hp->VK->Prop}(ho:UnR X (unaryOp op) r)(ha:PE X a ta):PE X (.UnaryOp op a pos) (tUn r ta):=by
 intro pins s σ H Q I h
 exact UnaryOp_ (thn (ha pins s σ H _ I h) λv s1 r9=>by obtain⟨x,H1,I1,r1,q1⟩:=r9;exact ho pins s1 σ H1 x v Q I1 r1 q1)
theorem opI {f:Value->Value->Sem Value}{C:Int->Int->Prop}{g:Int->Int->Int}
  (rule:∀(i j:Int) (t u:Tok) (s:Shared) (Q:Value->Shared->Prop) (E:Value->Shared->Prop),C i j->Q (.int (g i j) s.toks) {s with toks:=s.toks+1}->wpAny (model X.prog X.w) X.A (f (.int i t) (.int j u)) Q E s):
  OpR X f (rI C λi j=>.int (g i j)):=by
 intro pins s σ H x y v u Q I rx ry h
 obtain⟨i,j,rfl,rfl,hc,q⟩:=h
 obtain⟨t,rfl⟩:=rx
 obtain⟨t',rfl⟩:=ry
 exact rule i j t t' s _ _ hc ⟨.int (g i j),H,I.tok _,⟨_,rfl⟩,q⟩
theorem OM {f:Value->Value->Sem Value}{g:Int->Int->Int}
  (rule:∀(i j:Int) (t u:Tok) (s:Shared) (Q:Value->Shared->Prop) (E:Value->Shared->Prop),Q (.int (g i j) s.toks) {s with toks:=s.toks+1}->wpAny (model X.prog X.w) X.A (f (.int i t) (.int j u)) Q E s):
  OpR X f (rI0 λi j=>.int (g i j)):=by
 intro pins s σ H x y v u Q I rx ry h
 obtain⟨i,j,rfl,rfl,q⟩:=h
 obtain⟨t,rfl⟩:=rx
 obtain⟨t',rfl⟩:=ry
 exact rule i j t t' s _ _ ⟨.int (g i j),H,I.tok _,⟨_,rfl⟩,q⟩
theorem Og {f:Value->Value->Sem Value}{g:Int->Int->Bool}
  (rule:∀(i j:Int) (t u:Tok) (s:Shared) (Q:Value->Shared->Prop) (E:Value->Shared->Prop),Q (.bool (g i j)) s->wpAny (model X.prog X.w) X.A (f (.int i t) (.int j u)) Q E s):
  OpR X f (rI0 λi j=>.bl (g i j)):=by
 intro pins s σ H x y v u Q I rx ry h
 obtain⟨i,j,rfl,rfl,q⟩:=h
 obtain⟨t,rfl⟩:=rx
 obtain⟨t',rfl⟩:=ry
 exact rule i j t t' s _ _ ⟨.bl (g i j),H,I,rfl,q⟩
noncomputable def O4 (i j:Int):Prop:=0<j/\j<1073741824
noncomputable def OH (i j:Int):Prop:=0<=j/\j<=1000000/\i.natAbs<2^64
noncomputable def NA (i j:Int):Prop:=(-(2^64)<i/\i<2^64)∨(-(2^64)<j/\j<2^64)
theorem NA.ok {i j:Int}(h:NA i j):IntMulOk i j:=by
 rcases h with⟨h1,h2⟩ | ⟨h1,h2⟩
 ·exact .of_left (intBits_le_64 h1 h2)
 ·exact .of_right (intBits_le_64 h1 h2)
theorem X9:OpR X (binaryOp .Add) (rI0 λi j=>.int (i+j)):=OM λ_ _ _ _ _ _ _ q=>add_int q
theorem JL:OpR X (binaryOp .Sub) (rI0 λi j=>.int (i-j)):=OM λ_ _ _ _ _ _ _ q=>sub_int q
theorem Yz:OpR X (binaryOp .Mult) (rI NA λi j=>.int (i*j)):=opI λ_ _ _ _ _ _ _ hc q=>mul_int q hc.ok
theorem Ya:OpR X (binaryOp .Mod) (rI (λ_ j=>0<j) λi j=>.int (i % j)):=opI λi j _ _ _ _ _ hc q=>by
 have h1:(0:Int)<j:=hc
 exact mod_int' (by omega) (by rw[Int.fmod_eq_emod_of_nonneg i (by omega)];exact q)
theorem Dd:OpR X (binaryOp .Pow) (rI OH λi j=>.int (i^j.toNat)):=opI λ_ _ _ _ _ _ _ hc q=>pow_int_small hc.1 hc.2.1 hc.2.2 q
theorem unI {f:Value->Sem Value}{g:Int->Int}
  (rule:∀(i:Int) (t:Tok) (s:Shared) (Q:Value->Shared->Prop) (E:Value->Shared->Prop),Q (.int (g i) s.toks) {s with toks:=s.toks+1}->wpAny (model X.prog X.w) X.A (f (.int i t)) Q E s):
  UnR X f (rU λi=>.int (g i)):=by
 intro pins s σ H x v Q I rx h
 obtain⟨i,rfl,q⟩:=h
 obtain⟨t,rfl⟩:=rx
 exact rule i t s _ _ ⟨.int (g i),H,I.tok _,⟨_,rfl⟩,q⟩
theorem QG:UnR X (unaryOp .USub) (rU λi=>.int (-i)):=unI λ_ _ _ _ _ q=>neg_int q
end
noncomputable def Ou:V->V->Bool
 | .non, .non=>true | .non, .int _=>true | .int _, .non=>true | .non, .bl _=>true | .bl _, .non=>true | .non, .str _=>true | .str _, .non=>true
 | .int _, .int _=>true | .bl _, .bl _=>true | .str _, .str _=>true | .byt _, .byt _=>true
 | .int _, .str _=>true | .str _, .int _=>true | .bl _, .str _=>true | .str _, .bl _=>true
 |_,_=>false
noncomputable def rEq:R2:=λx y H Q=>Ou x y=true/\Q (.bl (decide (x=y))) H
noncomputable def rNe:R2:=λx y H Q=>Ou x y=true/\Q (.bl (!decide (x=y))) H
theorem Bu {i j:Int}:decide (V.int i=V.int j)=(i==j):=by
 rw[Bool.eq_iff_iff]
 simp
theorem IF {i j:Bool}:decide (V.bl i=V.bl j)=(i==j):=by
 rw[Bool.eq_iff_iff]
 simp
theorem BR {i j:Str}:decide (V.str i=V.str j)=(i==j):=by
 rw[Bool.eq_iff_iff]
 simp
theorem BN {i j:Array UInt8}:decide (V.byt i=V.byt j)=(i.toList==j.toList):=by
 rw[Bool.eq_iff_iff]
 cases i
 cases j
 simp
section
variable {X:Cx}{a b c:Expr}{ta tb tc:TE}{pos:Pos}
theorem Yq {pins:List (Addr×Obj)}{σ:St}{H:Hp}{s:Shared}{Q:VK}{k k':Bool}(I:Inv X pins σ H s)(q:Q (.bl k) H)(e:k=k'):EP X pins σ Q (.bool k') s:=by
 subst e
 exact⟨.bl k,H,I,rfl,q⟩
theorem UH:OpR X (compareOp .Eq) rEq:=by
 intro pins s σ H x y v u Q I rx ry h
 obtain⟨hs,q⟩:=h
 cases x with
 |non=>
  cases rx
  cases y with
  |non=>cases ry;exact PySem.EqNone.eq_none_none (Yq I q (by simp))
  |bl j=>cases ry;exact PySem.EqNone.eq_none_bool (Yq I q (by simp))
  |int j=>obtain⟨t',rfl⟩:=ry;exact PySem.EqNone.eq_none_int (Yq I q (by simp))
  |str j=>obtain⟨t',rfl⟩:=ry;exact PySem.EqNone.eq_none_str (Yq I q (by simp))
  |_=>exact absurd (show false=true from hs) Bool.false_ne_true
 |bl i=>
  cases rx
  cases y with
  |non=>cases ry;exact PySem.EqNone.eq_bool_none (Yq I q (by simp))
  |bl j=>cases ry;exact eq_bool (Yq I q IF)
  |str j=>obtain⟨t',rfl⟩:=ry;exact PySem.EqMixed.eq_bool_str (Yq I q (by simp))
  |_=>exact absurd (show false=true from hs) Bool.false_ne_true
 |int i=>
  obtain⟨t,rfl⟩:=rx
  cases y with
  |non=>cases ry;exact PySem.EqNone.eq_int_none (Yq I q (by simp))
  |int j=>obtain⟨t',rfl⟩:=ry;exact eq_int (Yq I q Bu)
  |str j=>obtain⟨t',rfl⟩:=ry;exact PySem.EqMixed.eq_int_str (Yq I q (by simp))
  |_=>exact absurd (show false=true from hs) Bool.false_ne_true
 |str i=>
  obtain⟨t,rfl⟩:=rx
  cases y with
  |non=>cases ry;exact PySem.EqNone.eq_str_none (Yq I q (by simp))
  |bl j=>cases ry;exact PySem.EqMixed.eq_str_bool (Yq I q (by simp))
  |int j=>obtain⟨t',rfl⟩:=ry;exact PySem.EqMixed.eq_str_int (Yq I q (by simp))
  |str j=>obtain⟨t',rfl⟩:=ry;exact eq_str (Yq I q BR)
  |_=>exact absurd (show false=true from hs) Bool.false_ne_true
 |byt i=>
  obtain⟨t,rfl⟩:=rx
  cases y with
  |byt j=>obtain⟨t',rfl⟩:=ry;exact PySem.W.eq_bytes (Yq I q BN)
  |_=>exact absurd (show false=true from hs) Bool.false_ne_true
 |_=>cases y<;> exact absurd (show false=true from hs) Bool.false_ne_true
theorem Dz:OpR X (compareOp .NotEq) rNe:=by
 intro pins s σ H x y v u Q I rx ry h
 obtain⟨hs,q⟩:=h
 cases x with
 |non=>
  cases rx
  cases y with
  |non=>cases ry;exact PySem.EqNone.ne_none_none (Yq I q (by simp))
  |bl j=>cases ry;exact PySem.EqNone.ne_none_bool (Yq I q (by simp))
  |int j=>obtain⟨t',rfl⟩:=ry;exact PySem.EqNone.ne_none_int (Yq I q (by simp))
  |str j=>obtain⟨t',rfl⟩:=ry;exact PySem.EqNone.ne_none_str (Yq I q (by simp))
  |_=>exact absurd (show false=true from hs) Bool.false_ne_true
 |bl i=>
  cases rx
  cases y with
  |non=>cases ry;exact PySem.EqNone.ne_bool_none (Yq I q (by simp))
  |bl j=>cases ry;exact ne_bool (Yq I q (congrArg not IF))
  |str j=>obtain⟨t',rfl⟩:=ry;exact PySem.EqMixed.ne_bool_str (Yq I q (by simp))
  |_=>exact absurd (show false=true from hs) Bool.false_ne_true
 |int i=>
  obtain⟨t,rfl⟩:=rx
  cases y with
  |non=>cases ry;exact PySem.EqNone.ne_int_none (Yq I q (by simp))
  |int j=>obtain⟨t',rfl⟩:=ry;exact ne_int (Yq I q (congrArg not Bu))
  |str j=>obtain⟨t',rfl⟩:=ry;exact PySem.EqMixed.ne_int_str (Yq I q (by simp))
  |_=>exact absurd (show false=true from hs) Bool.false_ne_true
 |str i=>
  obtain⟨t,rfl⟩:=rx
  cases y with
  |non=>cases ry;exact PySem.EqNone.ne_str_none (Yq I q (by simp))
  |bl j=>cases ry;exact PySem.EqMixed.ne_str_bool (Yq I q (by simp))
  |int j=>obtain⟨t',rfl⟩:=ry;exact PySem.EqMixed.ne_str_int (Yq I q (by simp))
  |str j=>obtain⟨t',rfl⟩:=ry;exact ne_str (Yq I q (congrArg not BR))
  |_=>exact absurd (show false=true from hs) Bool.false_ne_true
 |byt i=>
  obtain⟨t,rfl⟩:=rx
  cases y with
  |byt j=>obtain⟨t',rfl⟩:=ry;exact PySem.W.ne_bytes (Yq I q (congrArg not BN))
  |_=>exact absurd (show false=true from hs) Bool.false_ne_true
 |_=>cases y<;> exact absurd (show false=true from hs) Bool.false_ne_true
theorem Uo:OpR X (compareOp .Lt) (rI0 λi j=>.bl (decide (i<j))):=Og λ_ _ _ _ _ _ _ q=>lt_int q
theorem Ny:OpR X (compareOp .LtE) (rI0 λi j=>.bl (decide (i<=j))):=Og λ_ _ _ _ _ _ _ q=>le_int q
theorem K8:OpR X (compareOp .Gt) (rI0 λi j=>.bl (decide (j<i))):=Og λ_ _ _ _ _ _ _ q=>gt_int q
theorem OpR.or {f:Value->Value->Sem Value}{r r':R2}(h:OpR X f r)(h':OpR X f r'):OpR X f (λx y H Q=>r x y H Q∨r' x y H Q):=by
 intro pins s σ H x y v u Q I rx ry q
 rcases q with q |q
 ·exact h pins s σ H x y v u Q I rx ry q
 ·exact h' pins s σ H x y v u Q I rx ry q
theorem XW (b:Expr){op:CmpOp}(h:op≠ .In:=by decide)(h2:op≠ .NotIn:=by decide):behindInMarks op b=false:=by
 have e1:(op==CmpOp.In)=false:=by cases op<;> first |rfl |exact absurd rfl h
 have e2:(op==CmpOp.NotIn)=false:=by cases op<;> first |rfl |exact absurd rfl h2
 cases b<;> simp[behindInMarks,e1,e2]
theorem Bv {op:CmpOp}{r:R2}(ho:OpR X (compareOp op) r)(ha:PE X a ta)(hb:PE X b tb)(hm:behindInMarks op b=false):PE X (.Compare a [op] [b] pos) (tOp r ta tb):=by
 intro pins s σ H Q I h
 exact wpAny_Compare1 (Os ha hb I h λv u s2 x y H2 I2 rx ry q=>ho pins s2 σ H2 x y v u Q I2 rx ry q) hm
noncomputable def NC (t:TE):TT:=λσ H Q=>t σ H λx H'=>∃ k,x= .bl k/\Q k H'
theorem XI {op:CmpOp}{r:R2}(ho:OpR X (compareOp op) r)(ha:PE X a ta)(hb:PE X b tb)(hm:behindInMarks op b=false):PT X (.Compare a [op] [b] pos) (NC (tOp r ta tb)):=by
 intro pins s σ H Q I h
 refine wpAny_isTrue_Compare1 (thn (ha pins s σ H _ I h) λv s1 ⟨x,H1,I1,r1,q1⟩=>thn (hb pins s1 σ H1 _ I1 q1) λu s2 ⟨y,H2,I2,r2,q2⟩=>
  thn (ho pins s2 σ H2 x y v u _ I2 r1 r2 q2) λc s3 ⟨z,H3,I3,r3,k,e,q3⟩=>?_) hm
 subst e
 cases r3
 exact wpAny_truthy_bool ⟨H3,I3,q3⟩
theorem Gc:(sizeLine:Nat)<2^63:=by rw[sizeLine_eq];decide
theorem DC {x:V}{us:List Value}(r:Ys [x] us):∃u,us=[u]/\Yo x u:=by
 cases r with
 |cons r1 r2=>cases r2;exact⟨_,rfl,r1⟩
theorem MT {x y:V}{us:List Value}(r:Ys [x,y] us):∃u w',us=[u,w']/\Yo x u/\Yo y w':=by
 cases r with
 |cons r1 r2=>
  cases r2 with
  |cons r3 r4=>cases r4;exact⟨_,_,rfl,r1,r3⟩
theorem JK (hc:X.calm=true):QK X (.builtin "max") (λxs H Q=>∃ i j,xs=[.int i, .int j]/\Q (.int (if j > i then j else i)) H):=by
 intro pins s σ H xs us Q I r h
 obtain⟨i,j,rfl,q⟩:=h
 obtain⟨u,w',rfl,⟨t,rfl⟩,⟨t',rfl⟩⟩:=MT r
 refine max_two_ints (I.ok.hd hc) λh' tk k=>⟨_,H,I.kept k,?_,q⟩
 by_cases hj:j > i
 ·rw[if_pos hj,if_pos hj];exact⟨_,rfl⟩
 ·rw[if_neg hj,if_neg hj];exact⟨_,rfl⟩
theorem Bp (hc:X.calm=true):QK X (.builtin "min") (λxs H Q=>∃ i j,xs=[.int i, .int j]/\Q (.int (if j<i then j else i)) H):=by
 intro pins s σ H xs us Q I r h
 obtain⟨i,j,rfl,q⟩:=h
 obtain⟨u,w',rfl,⟨t,rfl⟩,⟨t',rfl⟩⟩:=MT r
 refine min_two_ints (I.ok.hd hc) λh' tk k=>⟨_,H,I.kept k,?_,q⟩
 by_cases hj:j<i
 ·rw[if_pos hj,if_pos hj];exact⟨_,rfl⟩
 ·rw[if_neg hj,if_neg hj];exact⟨_,rfl⟩
end
structure ObjM (h:Heap)(x dx C:Addr)(mA:Str->Option Value):Prop where
 obj:h.get? x=some (PySem.W.instObj C dx)
 ns:h.Ns1 dx mA
 ne:dx≠x
theorem BC {h:Heap}{dx:Addr}{mA:Str->Option Value}(n:h.Ns1 dx mA):∃od,h.get? dx=some od/\∀name,PySem.W.lookIn name od=some (mA name):=by
 obtain⟨o,es,ep,ho,hd,hk,_,hm⟩:=n
 refine⟨o,ho,λname=>?_⟩
 have e:=hm name
 unfold nsFind findBy at e
 rw[←Array.find?_toList] at e
 unfold PySem.W.lookIn
 rw[hd]
 dsimp only
 split
 ·rename_i y q
  rw[q] at e
  exact congrArg some e
 ·rename_i q
  rw[q] at e
  have a:es.toList.any (·.refKey)=false:=by
   rw[List.any_eq_false]
   intro y hy
   obtain⟨z,t,hkey⟩:=hk y (Array.mem_toList_iff.mp hy)
   simp[DictEntry.refKey,hkey]
  have a':¬es.toList.any (·.refKey)=true:=by rw[a];exact Bool.false_ne_true
  rw[if_neg a']
  exact congrArg some e
theorem ObjM.look {h:Heap}{x dx C:Addr}{mA:Str->Option Value}(I:ObjM h x dx C mA):∃od,PySem.W.InstAt h x (PySem.W.instObj C dx) C (some od)/\∀name,PySem.W.lookIn name od=some (mA name):=
 let ⟨od,ho,hl⟩:=BC I.ns
 ⟨od,⟨I.obj,rfl,rfl,ho⟩,hl⟩
section
variable {prog:Program}{w:World}{A:Around}{E:Value->Shared->Prop}{s:Shared}{K:PySem.W.Frag}{x dx C f:Addr}{mA:Str->Option Value}{name:Str}{v:Value}
end
theorem DZ.some_of {v:V}{o:Option Value}(r:DZ (some v) o):∃u,o=some u/\Yo v u:=by
 cases o with
 |none=>exact(show False from r).elim
 |some u=>exact⟨u,rfl,r⟩
section
variable {P:Program}{w:World}{H H':Hp}{h h':Heap}{a C dx:Addr}{fs fs':List (Str×V)}
theorem Lj (hok:HOk P w H h)(e:H a=some (.ins C dx fs)):∃mA,ObjM h a dx C mA/\(∀f,DZ (fs.lookup f) (mA f))/\PySem.Within mA (fs.map (·.1))/\fs.length<=1000/\H dx=some (.own a):=by
 obtain⟨d,z,ne,ob,mA,n,r,q⟩:=(show Y3 P w H h a (.ins C dx fs) from hok a _ e)
 exact⟨mA,⟨ob,n,ne⟩,r,q,z,d⟩
end
structure Cls (K:PySem.W.Frag)(C:Addr):Prop where
 pg:PySem.W.plainGet K C Str.empty=true
 hd:PySem.W.hasDictIn K C=true
 po:PySem.W.plainOver K C=true
 sa:PySem.W.findIn K (.ref C) "__setattr__" =some (some (.builtin "object.__setattr__"))
theorem Cls.get {K:PySem.W.Frag}{C:Addr}(c:Cls K C)(f:Str):PySem.W.plainGet K C f=true:=c.pg
section
variable {X:Cx}{pins:List (Addr×Obj)}{σ:St}{H:Hp}{s:Shared}{a C dx:Addr}{fs:List (Str×V)}{f:Str}{v:V}{A:Around}{E:Value->Shared->Prop}
theorem Inv.made (I:Inv X pins σ H s):Inv X pins σ (upd (upd H s.heap.objs.size (.own (s.heap.objs.size+1))) (s.heap.objs.size+1) (.ins C s.heap.objs.size []))
  {s with heap:=(s.heap.push PySem.W.emptyDict).push (PySem.W.instObj C s.heap.objs.size)}:=by
 have e1:(s.heap.push PySem.W.emptyDict).get? s.heap.objs.size=some PySem.W.emptyDict:=Heap.get?_push_size s.heap rfl
 have e2:((s.heap.push PySem.W.emptyDict).push (PySem.W.instObj C s.heap.objs.size)).get? (s.heap.objs.size+1)=some (PySem.W.instObj C s.heap.objs.size):=by
  have:=Heap.get?_push_size (s.heap.push PySem.W.emptyDict) (o:=PySem.W.instObj C s.heap.objs.size) rfl
  rwa [Heap.size_push] at this
 have e3:(s.heap.push PySem.W.emptyDict).Ns s.heap.objs.size (λ_=>none):=⟨PySem.W.emptyDict, #[],_,e1,rfl,(λe he=>absurd he (by simp)),λ_=>rfl⟩
 have I1:=I.laid (a:=s.heap.objs.size) (o:=.own (s.heap.objs.size+1)) (h':=s.heap.push PySem.W.emptyDict) (t':=s.toks) (λb u q=>Heap.get?_push_of_some _ q) (Nat.le_refl _) ⟨_,e1⟩
 refine I1.laid (a:=s.heap.objs.size+1) (o:=.ins C s.heap.objs.size []) (t':=s.toks) (λb u q=>Heap.get?_push_of_some _ q) (Nat.le_of_eq (Heap.size_push _ _)) ?_
 have ne:s.heap.objs.size≠s.heap.objs.size+1:=Nat.ne_of_lt (Nat.lt_succ_self _)
 refine⟨by rw[XA ne,YB],Nat.zero_le _,ne,e2,λ_=>none,(Heap.Ns1.of_empty e3).at λo q=>Heap.get?_push_of_some _ q,λ_=>True.intro,λy hy=>absurd rfl hy⟩
end
section
variable {X:Cx}{o e value:Expr}{f:Str}{pos pos' tpos:Pos}{ta tv:TE}
end
section
variable {X:Cx}{pins:List (Addr×Obj)}{σ:St}{H:Hp}{s:Shared}{A:Around}{E:Value->Shared->Prop}{Q:Value->Shared->Prop}{c:Value}{b:Bool}
inductive TyOf (K:PySem.W.Frag)(H:Hp):V->Value->Prop where
 |non:TyOf K H .non (.type "NoneType")
 |bl (x:Bool):TyOf K H (.bl x) (.type "bool")
 |int (i:Int):TyOf K H (.int i) (.type "int")
 |str (x:Str):TyOf K H (.str x) (.type "str")
 |flt (x:UInt64):TyOf K H (.flt x) (.type "float")
 |lst {a:Addr}{xs:List V} (e:H a=some (.lst xs)):TyOf K H (.ref a) (.type "list")
 |frz {a:Addr}{o:Obj}{xs:List V} (e:H a=some (.frz o (.lst xs))):TyOf K H (.ref a) (.type "list")
 |tup {a:Addr}{xs:List V} (e:H a=some (.tup xs)):TyOf K H (.ref a) (.type "tuple")
 |dK {a:Addr}{kvs:List (Key×V)} (e:H a=some (.dK kvs)):TyOf K H (.ref a) (.type "dict")
 |dT {a:Addr}{kvs:List (List Key×V)} (e:H a=some (.dT kvs)):TyOf K H (.ref a) (.type "dict")
 |ins {a C dx:Addr}{fs:List (Str×V)} (e:H a=some (.ins C dx fs)) (cl:Cls K C) (ha:PySem.W.findIn K (.ref C) "__class__" =some (some (.builtin "object.__class__")))
   (hn:PySem.W.specialIn K (.builtin "object.__class__") "__get__" =some (some (.builtin "getset_descriptor.__get__"))) (htk:PySem.W.takesIn K (.builtin "object.__class__")=some true)
   (hm:PySem.W.mroIn K C (.type "object")=some true):TyOf K H (.ref a) (.ref C)
theorem B4 {x:V}{u t:Value}(I:Inv X pins σ H s)(rx:Yo x u)(ty:TyOf X.K H x t)(e:PySem.W.kitOne X.K t c=some b)(h:∀tk,Q (.bool b) {s with toks:=tk}):
  wpAny (model X.prog X.w) A (call (.builtin "isinstance") [u,c]) Q E s:=by
 cases ty with
 |non=>cases(show u=Value.none from rx);exact PySem.W.kia_one PySem.W.kitx_none I.kIn True.intro e (λz=>nomatch z) h
 |bl y=>cases(show u=Value.bool y from rx);exact PySem.W.kia_one PySem.W.kitx_bool I.kIn True.intro e (λz=>nomatch z) h
 |int i=>obtain⟨t,q⟩:=(show ∃t,u=Value.int i t from rx);cases q;exact PySem.W.kia_one PySem.W.kitx_int I.kIn True.intro e (λz=>nomatch z) h
 |str y=>obtain⟨t,q⟩:=(show ∃t,u=Value.str y t from rx);cases q;exact PySem.W.kia_one PySem.W.kitx_str I.kIn True.intro e (λz=>nomatch z) h
 |flt y=>obtain⟨t,q⟩:=(show ∃t,u=Value.float y t from rx);cases q;exact PySem.W.kia_one PySem.W.kitx_float I.kIn True.intro e (λz=>nomatch z) h
 | @lst a xs ea=>
  cases(show u=Value.ref a from rx)
  obtain⟨_,_,n,_,h1⟩:=(show Y3 X.prog X.w H s.heap a (.lst xs) from I.hok a _ ea)
  exact PySem.W.kia_one PySem.W.kitx_list I.kIn ⟨_,h1,rfl⟩ e (λz=>nomatch z) h
 | @frz a ob xs ea=>
  cases(show u=Value.ref a from rx)
  obtain⟨_,_,_,n,_,h1⟩:=(show Y3 X.prog X.w H s.heap a (.frz ob (.lst xs)) from I.hok a _ ea)
  exact PySem.W.kia_one PySem.W.kitx_list I.kIn ⟨_,h1,rfl⟩ e (λz=>nomatch z) h
 | @tup a xs ea=>
  cases(show u=Value.ref a from rx)
  obtain⟨_,_,_,p⟩:=(show Y3 X.prog X.w H s.heap a (.tup xs) from I.hok a _ ea)
  obtain⟨o,h1,h2,_⟩:=p
  exact PySem.W.kia_one PySem.W.kitx_tuple I.kIn ⟨o,h1,h2.1⟩ e (λz=>nomatch z) h
 | @dK a kvs ea=>
  cases(show u=Value.ref a from rx)
  obtain⟨_,_,vs,_,p⟩:=(show Y3 X.prog X.w H s.heap a (.dK kvs) from I.hok a _ ea)
  obtain⟨o,es,ep,h1,h2,_⟩:=p
  exact PySem.W.kia_one PySem.W.kitx_dict I.kIn ⟨o,h1,h2.1⟩ e (λz=>nomatch z) h
 | @dT a kvs ea=>
  cases(show u=Value.ref a from rx)
  obtain⟨_,_,xs,_,o,es,ep,h1,h2,_⟩:=(show Y3 X.prog X.w H s.heap a (.dT kvs) from I.hok a _ ea)
  exact PySem.W.kia_one PySem.W.kitx_dict I.kIn ⟨o,h1,h2.1⟩ e (λz=>nomatch z) h
 | @ins a C dx fs ea cl ha hn htk hm=>
  cases(show u=Value.ref a from rx)
  obtain⟨mA,O,_⟩:=Lj I.hok ea
  obtain⟨od,J,_⟩:=O.look
  exact PySem.W.kia_one (PySem.W.kitx_own (cl.get _) cl.hd ha hn htk hm) I.kIn J e (λz=>nomatch z) h
end
structure Room (k:Nat)(A:Around):Prop where
 hd:A.handled=none
 dp:A.depth+3*k+5<recursionLimit
 un:A.units+16*k+200<cLine
theorem Room.mono {j k:Nat}{A:Around}(r:Room k A)(h:j<=k):Room j A:=⟨r.hd,by have:=r.dp;omega,by have:=r.un;omega⟩
theorem Room.deeper {k:Nat}{A:Around}(r:Room (k+1) A)(env:Env):Room k (A.deeper env):=
 ⟨r.hd,by have:=r.dp;show A.depth+1+3*k+5<_;omega,by have:=r.un;show A.units+3+16*k+200<_;omega⟩
theorem Room.in1 {k:Nat}{A:Around}(r:Room (k+1) A):Room k A.in1:=
 ⟨r.hd,by have:=r.dp;show A.depth+3*k+5<_;omega,by have:=r.un;show A.units+1+16*k+200<_;omega⟩
theorem DI {A:Around}{C:Addr}{us:List Value}{kw:List (Str×Value)}:(A.under (.builtin "type.__call__" ⟨.ref C::us,kw⟩)).depth=A.depth+1:=by
 first |rfl |simp[Around.under,Code.weight,Code.isCreation,Code.isGuard,Code.isCaller,Code.frames,Code.isFrame,guardIds]
theorem Cd {A:Around}{C:Addr}{us:List Value}{kw:List (Str×Value)}:(A.under (.builtin "type.__call__" ⟨.ref C::us,kw⟩)).units=A.units+1:=by
 first |rfl |simp[Around.under,Code.cUnits,Code.frames,Code.isFrame]
theorem Room.make {k:Nat}{A:Around}(r:Room (k+1) A)(C:Addr)(us:List Value)(kw:List (Str×Value)):Room k (A.under (.builtin "type.__call__" ⟨.ref C::us,kw⟩)):=
 ⟨r.hd,by have:=r.dp;rw[DI];omega,by have:=r.un;rw[Cd];omega⟩
theorem Room.depth {k:Nat}{A:Around}(r:Room k A):A.depth<recursionLimit:=by have:=r.dp;omega
theorem Room.units {k:Nat}{A:Around}(r:Room k A):A.units+64<cLine:=by have:=r.un;omega
noncomputable def QV:TA:=λ_ H Q=>Q [] H
noncomputable def X2 (ta:TE)(tr:TA):TA:=λσ H Q=>ta σ H λx H1=>tr σ H1 λxs H2=>Q (x::xs) H2
section
variable {X:Cx}{e:Expr}{es:List Expr}{te:TE}{t:TA}{pos:Pos}
theorem Xe:PA X [] QV:=λ_ _ _ _ H Q I h=>Calls.spliced_nil ⟨[],H,I, .nil,h⟩
theorem Xd (ha:PE X e te)(hr:PA X es t)(hs:starEach (e::es) X.env=(false,eval e X.env)::starEach es X.env:=by rfl):PA X (e::es) (X2 te t):=by
 intro pos pins s σ H Q I h
 rw[hs]
 show wpAny _ _ (spliced ((false,eval e X.env)::backTo pos (starEach es X.env))) _ _ s
 refine Calls.spliced_cons (thn (ha pins s σ H _ I h) λu s1 r9=>?_)
 obtain⟨x,H1,I1,r1,q1⟩:=r9
 exact thn (hr pos pins s1 σ H1 _ I1 q1) λus s2 r9=>by obtain⟨xs,H2,I2,r2,q2⟩:=r9;exact⟨x::xs,H2,I2, .cons r1 r2,q2⟩
noncomputable def Ms (t:TA):TE:=λσ H Q=>t σ H λxs H1=>xs.length<=sizeLine/\∀p,H1 p=none->Q (.ref p) (upd H1 p (.tup xs))
noncomputable def Nt (t:TA):TE:=λσ H Q=>t σ H λxs H1=>xs.length<=sizeLine/\∀p,H1 p=none->Q (.ref p) (upd H1 p (.lst xs))
theorem ZF {x1}(h:PA X es t):PE X (.Tuple es x1 pos) (Ms t):=by
 intro pins s σ H Q I hq
 refine wpAny_Tuple_spliced (thn (h pos pins s σ H _ I hq) λus s1 ⟨xs,H1,I1,r,z,q⟩=>⟨by rw[←r.length];exact z,?_⟩)
 have hf:H1 s1.heap.objs.size=none:=I1.hok.fresh (Nat.le_refl _)
 refine⟨.ref s1.heap.objs.size,upd H1 s1.heap.objs.size (.tup xs),I1.laid (t':=s1.toks) (λb u e=>Heap.get?_push_of_some _ e) (Nat.le_refl _) ?_,rfl,q _ hf⟩
 exact⟨z,us,r,⟨_,Heap.get?_push_size _ rfl,⟨rfl,rfl⟩,_,rfl⟩⟩
theorem X1 (h:PA X es t):PE X (.List es pos) (Nt t):=by
 intro pins s σ H Q I hq
 refine wpAny_List_spliced (thn (h pos pins s σ H _ I hq) λus s1 ⟨xs,H1,I1,r,z,q⟩=>⟨by rw[←r.length];exact z,?_⟩)
 have hf:H1 s1.heap.objs.size=none:=I1.hok.fresh (Nat.le_refl _)
 refine⟨.ref s1.heap.objs.size,upd H1 s1.heap.objs.size (.lst xs),I1.laid (t':=s1.toks) (λb u e=>Heap.get?_push_of_some _ e) (Nat.le_refl _) ?_,rfl,q _ hf⟩
 exact⟨z,us,0,r,Heap.get?_push_size _ rfl⟩
end
noncomputable abbrev Sp:=List V->Hp->VK->XK->Prop
noncomputable abbrev CXT:=List Env->Hp->Shared->XK->Value->Shared->Prop
structure Env0 (P:Program)(w:World)(K:PySem.W.Frag)(mg:Str->Option Value)(base:Heap)(A:Around)(outer:List Env)(s:Shared)(H:Hp):Prop where
 frames:A.frames=some outer
 mod:Mod K mg base
 bs:∀b o,base.get? b=some o->s.heap.get? b=some o/\H b=none
 bsz:base.objs.size<=s.heap.objs.size
 funs:s.heap.FunFrames base outer
 frf:∀b∈frs outer,H b=none
 hok:HOk P w H s.heap
 bare:AllBare s.gens
noncomputable def CE (outer:List Env)(P:Program)(w:World)(H:Hp)(s:Shared)(Q:VK)(u:Value)(s':Shared):Prop:=
 ∃v H',s'.os=s.os/\AllBare s'.gens/\Un (frs outer) [] H H' s.heap s'.heap/\HOk P w H' s'.heap/\Yo v u/\Q v H'
noncomputable def CR (CX:CXT)(outer:List Env)(P:Program)(w:World)(H:Hp)(s:Shared)(Q:VK)(E:XK)(r:Result)(s':Shared):Prop:=
 match r with
 | .ok (.ret u)=>CE outer P w H s Q u s'
 | .ok _=>False
 | .error e=>CX outer H s E e s'
structure FnOk (P:Program)(w:World)(K:PySem.W.Frag)(mg:Str->Option Value)(base:Heap)(CX:CXT)(k:Nat)(f:Addr)(fd:FuncData)(ps:List Str)(sp:Sp):Prop where
 len:∀vs H Q E,sp vs H Q E->vs.length=ps.length
 run:∀(A:Around) (outer:List Env) (s:Shared) (H:Hp) (args:Args) (us:List Value) (vs:List V) (Q:VK) (E:XK),Room k A->Env0 P w K mg base A outer s H->BindsTo s fd args (ps.zip us)->Ys vs us->sp vs H Q E->
  codeAny (model P w) A (.call (.ref f) args) (CR CX outer P w H s Q E) s
theorem FnOk.mono {P:Program}{w:World}{K:PySem.W.Frag}{mg:Str->Option Value}{base:Heap}{CX:CXT}{j k:Nat}{f:Addr}{fd:FuncData}{ps:List Str}{sp:Sp}(F:FnOk P w K mg base CX j f fd ps sp)(h:j<=k):
  FnOk P w K mg base CX k f fd ps sp:=⟨F.len,λA outer s H args us vs Q E hr=>F.run A outer s H args us vs Q E (hr.mono h)⟩
theorem FnOk.imp {P:Program}{w:World}{K:PySem.W.Frag}{mg:Str->Option Value}{base:Heap}{CX:CXT}{k:Nat}{f:Addr}{fd:FuncData}{ps:List Str}{sp sp':Sp}(F:FnOk P w K mg base CX k f fd ps sp)
  (h:∀vs H Q E,sp' vs H Q E->sp vs H Q E):FnOk P w K mg base CX k f fd ps sp':=
 ⟨λvs H Q E q=>F.len vs H Q E (h _ _ _ _ q),λA outer s H args us vs Q E hr he hb hv hs=>F.run A outer s H args us vs Q E hr he hb hv (h _ _ _ _ hs)⟩
theorem Env0.make {P:Program}{w:World}{K:PySem.W.Frag}{mg:Str->Option Value}{base:Heap}{A:Around}{outer:List Env}{s:Shared}{H:Hp}(e:Env0 P w K mg base A outer s H)(C:Addr)(us:List Value)(kw:List (Str×Value)):
  Env0 P w K mg base (A.under (.builtin "type.__call__" ⟨.ref C::us,kw⟩)) outer s H:=⟨by first |exact e.frames | (simpa[Around.under,Code.envs,Code.isFrame,pushEnvs] using e.frames),e.mod,e.bs,e.bsz,e.funs,e.frf,e.hok,e.bare⟩
theorem Env0.in1 {P:Program}{w:World}{K:PySem.W.Frag}{mg:Str->Option Value}{base:Heap}{A:Around}{outer:List Env}{s:Shared}{H:Hp}(e:Env0 P w K mg base A outer s H):
  Env0 P w K mg base A.in1 outer s H:=⟨e.frames,e.mod,e.bs,e.bsz,e.funs,e.frf,e.hok,e.bare⟩
section
variable {X:Cx}{pins:List (Addr×Obj)}{σ:St}{H:Hp}{s s':Shared}
theorem Inv.env0 (I:Inv X pins σ H s):Env0 X.prog X.w X.K X.mg X.base X.A X.stack s H:=
 ⟨I.ok.frames,I.ok.mod,I.bs,Nat.le_trans I.ok.bsz I.sz,I.stack,I.stkFree,I.hok,I.bare⟩
theorem Inv.after {Q:VK}{u:Value}(I:Inv X pins σ H s)(h:CE X.stack X.prog X.w H s Q u s'):EP X pins σ Q u s':=by
 obtain⟨v,H',os,bare,un,hok,r,q⟩:=h
 obtain⟨hh,g,d,t,os'⟩:=s'
 obtain rfl:os'=s.os:=os
 exact⟨v,H',I.call (h':=hh) (g':=g) (d':=d) (t':=t) (ch:=[]) un hok bare (λb z=>absurd z (by simp)),r,q⟩
end
noncomputable def DS (sp:Sp)(dvs:List V)(E:XK)(t:TA):TE:=λσ H Q=>t σ H λvs H1=>sp (vs++dvs) H1 Q E
noncomputable def G2 (K:PySem.W.Frag)(fd:FuncData)(ps:List Str)(ds:List Value):Prop:=
 ∀(s:Shared) (us:List Value),K.In s.heap->(us++ds).length=ps.length->BindsTo s fd ⟨us,[]⟩ (ps.zip (us++ds))
theorem G2.all {K:PySem.W.Frag}{fd:FuncData}{ps:List Str}(h:∀us:List Value,us.length=ps.length->bindArgs fd ⟨us,[]⟩=pure (ps.zip us)):G2 K fd ps []:=λs us _ hl=>by
 rw[List.append_nil] at hl⊢
 exact .of_eq (h us hl)
noncomputable def EA (CX:CXT)(X:Cx)(E:XK):Prop:=∀ (pins:List (Addr×Obj)) (σ:St) (H:Hp) (s:Shared) (e:Value) (s':Shared),Inv X pins σ H s->CX X.stack H s E e s'->X.xe e s'
section
variable {X:Cx}{CX:CXT}{k:Nat}{f C:Addr}{fd:FuncData}{ps:List Str}{sp:Sp}{dvs:List V}{ds:List Value}{E:XK}{x m:Str}{p pos apos:Pos}{e o:Expr}{es:List Expr}{ta:TE}{t:TA}
theorem Mv {pins:List (Addr×Obj)}{σ:St}{H:Hp}{s:Shared}{Q:VK}{us:List Value}{vs:List V}(F:FnOk X.prog X.w X.K X.mg X.base CX k f fd ps sp)(hr:Room k X.A)(hb:G2 X.K fd ps ds)(hd:Ys dvs ds)(hx:EA CX X E)
  (I:Inv X pins σ H s)(r:Ys vs us)(h:sp (vs++dvs) H Q E):wpAny (model X.prog X.w) X.A (call (.ref f) us) (EP X pins σ Q) X.xe s:=by
 have r2:Ys (vs++dvs) (us++ds):=r.append hd
 have hl:(us++ds).length=ps.length:=by rw[←r2.length];exact F.len _ _ _ _ h
 refine wpAny_call (codeAny_mono (F.run X.A X.stack s H ⟨us,[]⟩ (us++ds) (vs++dvs) Q E hr I.env0 (hb s us I.kIn hl) r2 h) λr s' hq=>?_)
 cases r with
 |error e=>exact hx pins σ H s e s' I hq
 |ok fl=>
  cases fl with
  |ret u=>exact I.after hq
  |next=>exact False.elim hq
  |brk=>exact False.elim hq
  |cont=>exact False.elim hq
theorem LV (F:FnOk X.prog X.w X.K X.mg X.base CX k f fd ps sp)(hr:Room k X.A)(hg:Gl X x)(hm:X.mg x=some (.ref f))(hk:PySem.W.keepIn X.K (.ref f)=true)(hb:G2 X.K fd ps ds)(hd:Ys dvs ds)(hx:EA CX X E)
  (ha:PA X (e::es) t)(hdb:(x==("__debug__":Str))=false:=by decide)(he:starEach (e::es) X.env=(false,eval e X.env)::starEach es X.env:=by rfl)(hpl:(backTo pos (starEach es X.env)).any (·.1)=false:=by rfl):
  PE X (.Call (.Name x p) (e::es) [] pos) (DS sp dvs E t):=by
 intro pins s σ H Q I h
 refine wpAny_Call_Name_kw (BW I hg hm ?_ hdb)
 refine PySem.W.callWith_K (h₀:=X.base) I.ok.mod.kin hk (thn (ha pos pins s σ H _ I h) λus s1 ⟨vs,H1,I1,r,q⟩=>⟨I1.kIn,?_⟩) he hpl
 exact Mv F hr hb hd hx I1 r q
end
section
variable {X:Cx}{CX:CXT}{k:Nat}{f C:Addr}{fd:FuncData}{ps ks:List Str}{sp:Sp}{E:XK}{x m:Str}{p pos apos kpos:Pos}{e o:Expr}{es:List Expr}{kws:List Keyword}{te ta:TE}{t tk:TA}{nm:Option Str}
variable {g:List Value->List Value->List Value}{gV:List V->List V->List V}
end
structure FnScope (N P:List Str)(sc:Scope):Prop where
 kind:sc.kind= .function
 co:sc.isCoroutine=false
 gen:sc.isGenerator=false
 nd:N.Nodup
 pre:N.take P.length=P
 par:∀x∈P,sc.names.lookup x=some .local∨sc.names.lookup x=some .cell
 nofree:∀y∈sc.names,y.2≠ .free
theorem K6 {kindOf:Str->Option NameKind}{x:Str}:∀{binds:List (Str×Value)}{m:Str->Option Value},(∀v,(x,v)∉binds)->bindL kindOf binds m x=m x
 | [],_,_=>rfl
 | (n,v)::r,m,h=>by
  unfold bindL
  rw[K6 λw hw=>h w (List.mem_cons_of_mem _ hw)]
  split
  ·have:x≠n:=by rintro rfl;exact h v List.mem_cons_self
   simp[this]
  ·rfl
theorem K5 {kindOf:Str->Option NameKind}{x:Str}:∀{binds:List (Str×Value)}{m:Str->Option Value},(∀v,(x,v)∉binds)->bindC kindOf binds m x=m x
 | [],_,_=>rfl
 | (n,v)::r,m,h=>by
  unfold bindC
  rw[K5 λw hw=>h w (List.mem_cons_of_mem _ hw)]
  split
  ·rfl
  ·have:x≠n:=by rintro rfl;exact h v List.mem_cons_self
   simp[this]
theorem KU {kindOf:Str->Option NameKind}{x:Str}{v:Value}:∀{P:List Str}{vs:List Value}{i:Nat}{m:Str->Option Value},P.Nodup->P[i]?=some x->vs[i]?=some v->kindOf x=some .local->
  bindL kindOf (P.zip vs) m x=some v
 | [],_,_,_,_,h,_,_=>by simp at h
 |_::_,[],_,_,_,_,h,_=>by simp at h
 |p::P,w::vs,0,m,nd,h1,h2,hk=>by
  simp at h1 h2;subst h1;subst h2
  show bindL kindOf ((p,w)::P.zip vs) m p=_
  unfold bindL
  rw[K6 λv hv=>(List.nodup_cons.mp nd).1 (List.of_mem_zip hv).1,if_pos hk]
  simp
 |p::P,w::vs,i+1,m,nd,h1,h2,hk=>by
  show bindL kindOf ((p,w)::P.zip vs) m x=_
  unfold bindL
  exact KU (i:=i) (List.nodup_cons.mp nd).2 (by simpa using h1) (by simpa using h2) hk
theorem KK {kindOf:Str->Option NameKind}{x:Str}{v:Value}:∀{P:List Str}{vs:List Value}{i:Nat}{m:Str->Option Value},P.Nodup->P[i]?=some x->vs[i]?=some v->kindOf x≠some .local->
  bindC kindOf (P.zip vs) m x=some v
 | [],_,_,_,_,h,_,_=>by simp at h
 |_::_,[],_,_,_,_,h,_=>by simp at h
 |p::P,w::vs,0,m,nd,h1,h2,hk=>by
  simp at h1 h2;subst h1;subst h2
  show bindC kindOf ((p,w)::P.zip vs) m p=_
  unfold bindC
  rw[K5 λv hv=>(List.nodup_cons.mp nd).1 (List.of_mem_zip hv).1,if_neg hk]
  simp
 |p::P,w::vs,i+1,m,nd,h1,h2,hk=>by
  show bindC kindOf ((p,w)::P.zip vs) m x=_
  unfold bindC
  exact KK (i:=i) (List.nodup_cons.mp nd).2 (by simpa using h1) (by simpa using h2) hk
noncomputable def KC (N:List Str)(vs:List V):St:=vs.map some++List.replicate (N.length-vs.length) none
noncomputable def LU (CX:CXT)(P:Program)(w:World)(K:PySem.W.Frag)(mg:Str->Option Value)(base:Heap)(N:List Str)(qual:Str)(scope:Scope)(f:Addr)(cd:Value)(A:Around)(outer:List Env)(s:Shared)(H:Hp)(E:XK):Cx where
 prog:=P
 w:=w
 K:=K
 mg:=mg
 base:=base
 A:=A.deeper (envOfC qual scope s.heap.objs.size f cd)
 N:=N
 s₀:=s
 H₀:=H
 env:=envOfC qual scope s.heap.objs.size f cd
 outer:=outer
 stack:=envOfC qual scope s.heap.objs.size f cd::outer
 ex:=[]
 calm:=true
 fn:=λ_=>true
 pn:=[]
 xe:=λe s'=>wpAny (model P w) (A.deeper (envOfC qual scope s.heap.objs.size f cd)) (leaving (envOfC qual scope s.heap.objs.size f cd) e) (λ_ s''=>CX outer H s E e s'') (λe' s''=>CX outer H s E e' s'') s'
theorem Dk {sc:Scope}{n:Nat}{x:Str}(h:sc.names.lookup x=some .cell):∃c,(cellsFrom n sc.names []).lookup x=some c:=by
 have q:=PySem.W.cellsFrom_some sc.names n [] (.inl h)
 exact Option.isSome_iff_exists.mp q
theorem EE {CX:CXT}{P:Program}{w:World}{K:PySem.W.Frag}{mg:Str->Option Value}{base:Heap}{N ps:List Str}{qual:Str}{scope:Scope}{f:Addr}{cd:Value}{A:Around}{outer:List Env}{s s1:Shared}{H:Hp}{E:XK}{us:List Value}{vs:List V}
  (S:FnScope N ps scope)(hd:A.handled=none)(e0:Env0 P w K mg base A outer s H)(hl:vs.length=ps.length)(r:Ys vs us)
  (x:InCallC s s.heap.objs.size (bindL (envOfC qual scope s.heap.objs.size f cd).kindOf (ps.zip us) λ_=>none) (cellsFrom (s.heap.objs.size+1) scope.names []) (bindC (envOfC qual scope s.heap.objs.size f cd).kindOf (ps.zip us) λ_=>none) s1):
  Inv (LU CX P w K mg base N qual scope f cd A outer s H E) [] (KC N vs) H s1:=by
 have hpl:ps.length<=N.length:=by have:=congrArg List.length S.pre;rw[List.length_take] at this;omega
 obtain⟨h1,tk,rfl,hk⟩:=x.done
 have noA:∀b:Addr,b∉(LU CX P w K mg base N qual scope f cd A outer s H E).ex:=λb z=>absurd (show b∈([]:List Addr) from z) (by simp)
 refine⟨⟨e0.mod,S.kind,rfl,rfl,Nat.le_refl _,λy z c h1 h2=>?_,λy hy=>?_,λy c _ h=>?_,λ_=>hd,Around.frames_deeper e0.frames, .inr ⟨rfl,rfl⟩,λb z=>absurd z (noA b),e0.bs,e0.bsz,λb _ _=>noA b,λb z=>absurd z (noA b),e0.funs,e0.frf⟩,
  rfl,e0.bare,Un.kept hk,⟨_,x.toInCall.ns,λi y v h1 h2 h3=>?_⟩,λy c h=>⟨_,x.cell y c h⟩,e0.hok.fresh (Nat.le_refl _),λy c h=>?_,λp hp=>absurd (show p∈([]:List (Addr×Obj)) from hp) (by simp),e0.hok.kept hk,?_⟩
 ·exact name_of_addr x.apart (PySem.mem_of_lookup h1) (PySem.mem_of_lookup h2)
 ·have hy:scope.names.lookup y=some .cell∨scope.names.lookup y=some .free:=hy
  rcases hy with hy |hy
  ·exact Dk hy
  ·exact absurd rfl (S.nofree _ (PySem.mem_of_lookup hy))
 ·exact Nat.le_of_lt (x.above y c (PySem.mem_of_lookup h))
 ·have hi:i<vs.length:=by
   unfold KC at h2
   by_cases hi:i<vs.length
   ·exact hi
   ·rw[List.getElem?_append_right (by simpa using hi)] at h2
    rw[List.getElem?_replicate] at h2
    split at h2<;> cases h2
  have ha:vs[i]?=some v:=by
   unfold KC at h2
   rw[List.getElem?_append_left (by simpa using hi),List.getElem?_map] at h2
   cases e:vs[i]? with
   |none=>rw[e] at h2;cases h2
   |some a=>rw[e] at h2;cases h2;rfl
  obtain⟨u,hu,rv⟩:=r.get ha
  have hp:ps[i]?=some y:=by
   rw[←S.pre,List.getElem?_take_of_lt (by omega)];exact h1
  have ndP:ps.Nodup:=by rw[←S.pre];exact S.nd.sublist (List.take_sublist _ _)
  refine⟨u,rv,?_⟩
  rcases S.par y (List.mem_of_getElem? hp) with k |k
  ·exact .inl ⟨k,KU ndP hp hu k⟩
  ·obtain⟨c,e⟩:=Dk (n:=s.heap.objs.size+1) k
   refine .inr ⟨.inl k,c,e,?_⟩
   have q:=x.cell y c e
   rw[KK ndP hp hu (by show scope.names.lookup y≠_;rw[k];decide)] at q
   exact q
 ·exact e0.hok.fresh (Nat.le_of_lt (x.above y c (PySem.mem_of_lookup h)))
 ·unfold KC
  show _=N.length
  rw[List.length_append,List.length_map,List.length_replicate]
  omega
theorem Oq {CX:CXT}{P:Program}{w:World}{K:PySem.W.Frag}{mg:Str->Option Value}{base:Heap}{k:Nat}{f:Addr}{name qual:Str}{params:Arguments}{body:List Stmt}{scope:Scope}{dV kV doc pm cdv ct oc:Value}{an od:Option Addr}
  {osl:Array (Option Value)}{N ps:List Str}{sp:Sp}(lk:K.lookup f=some ⟨oc,od, .func (PySem.W.fnOf name qual params body scope dV kV doc pm an cdv ct),osl⟩)(hcd:PySem.W.codeIn K cdv qual=true)(S:FnScope N ps scope)
  (len:∀vs H Q E,sp vs H Q E->vs.length=ps.length)
  (hbody:∀(A:Around) (outer:List Env) (s:Shared) (H:Hp) (vs:List V) (Q:VK) (E:XK),Room k (A.deeper (envOfC qual scope s.heap.objs.size f cdv))->sp vs H Q E->
   ∃t,PSs (LU CX P w K mg base N qual scope f cdv A outer s H E) body t/\t {nx:=λ_ H'=>Q .non H',rt:=Q} (KC N vs) H):
  FnOk P w K mg base CX (k+1) f (PySem.W.fnOf name qual params body scope dV kV doc pm an cdv ct) ps sp:=by
 refine⟨len,λA outer s H args us vs Q E hr e0 hb r hsp=>?_⟩
 have hl:=len _ _ _ _ hsp
 have KX:K.In s.heap:=e0.mod.kin.keeps λb o e=>(e0.bs b o e).1
 have lim:s.heap.NoLimit:=e0.mod.nolimit.keeps λb o e=>(e0.bs b o e).1
 have hkind:∀y∈ps.zip us,scope.names.lookup y.1=some .local∨(scope.names.lookup y.1=some .cell/\((cellsFrom (s.heap.objs.size+1) scope.names []).lookup y.1).isSome=true):=λ⟨n,v⟩ hy=>by
  rcases S.par n (List.of_mem_zip hy).1 with q |q
  ·exact .inl q
  ·exact .inr ⟨q,PySem.W.cellsFrom_some _ _ _ (.inl q)⟩
 refine codeAny_call_function hr.depth (KX _ _ lk) rfl S.co S.gen rfl (PySem.W.codeRec_of KX hcd) (hb _ _ _ _ ?_)
 refine wpAny_newFunctionEnv_cells S.kind hkind λenv he s1 x=>?_
 subst he
 refine⟨lim.keeps x.toInCall.keep,codeAny_func ?_⟩
 obtain⟨t,ht,hq⟩:=hbody A outer s H vs Q E (hr.deeper _) hsp
 have I:Inv (LU CX P w K mg base N qual scope f cdv A outer s H E) [] (KC N vs) H s1:=EE S hr.hd e0 hl r x
 refine wpAny_mono (ht [] s1 (KC N vs) H _ I hq) (λfl s' hs=>?_) λe s' hs=>hs
 have fin:∀{σ':St}{H':Hp}{v:V}{u:Value},Inv (LU CX P w K mg base N qual scope f cdv A outer s H E) [] σ' H' s'->Yo v u->Q v H'->CE outer P w H s Q u s':=
  fun {σ' H' v u} J rv q=>⟨v,H',J.os,J.bare,J.base,J.hok,rv,q⟩
 cases fl with
 |ret u=>
  obtain⟨v,σ',H',J,rv,q⟩:=hs
  exact fin J rv q
 |next=>
  obtain⟨σ',H',J,q⟩:=hs
  exact fin (v:=V.non) (u:=Value.none) J rfl q
 |brk=>
  obtain⟨_,_,_,q⟩:=hs
  exact False.elim q
 |cont=>
  obtain⟨_,_,_,q⟩:=hs
  exact False.elim q
section
variable {X:Cx}{x:Str}{p pos:Pos}{e:Expr}{es:List Expr}{t:TA}{id T:String}{r:List V->Hp->VK->Prop}
noncomputable def tCB (r:List V->Hp->VK->Prop)(t:TA):TE:=λσ H Q=>t σ H λvs H1=>r vs H1 Q
theorem Xy (hc:QK X (.builtin id) r)(hg:Gl X x)(hm:X.mg x=none)(hv:bootBuiltins x=some (.builtin id))(ha:PA X (e::es) t)(hn:x≠ "__name__":=by decide)(hdb:(x==("__debug__":Str))=false:=by decide)
  (he:starEach (e::es) X.env=(false,eval e X.env)::starEach es X.env:=by rfl)(hpl:(backTo pos (starEach es X.env)).any (·.1)=false:=by rfl):PE X (.Call (.Name x p) (e::es) [] pos) (tCB r t):=by
 intro pins s σ H Q I h
 refine wpAny_Call_Name_kw (U2 I hg hm hv ?_ hn hdb)
 exact PyProof.Rows.callWith_builtin1 (thn (ha pos pins s σ H _ I h) λus s1 r9=>by obtain⟨vs,H1,I1,r1,q1⟩:=r9;exact hc pins s1 σ H1 vs us Q I1 r1 q1) he hpl
theorem JJ (hc:QK X (.type T) r)(hg:Gl X x)(hm:X.mg x=none)(hv:bootBuiltins x=some (.type T))(ha:PA X (e::es) t)(hn:x≠ "__name__":=by decide)(hdb:(x==("__debug__":Str))=false:=by decide)
  (he:starEach (e::es) X.env=(false,eval e X.env)::starEach es X.env:=by rfl)(hpl:(backTo pos (starEach es X.env)).any (·.1)=false:=by rfl):PE X (.Call (.Name x p) (e::es) [] pos) (tCB r t):=by
 intro pins s σ H Q I h
 refine wpAny_Call_Name_kw (U2 I hg hm hv ?_ hn hdb)
 exact PyProof.Rows.callWith_type1 (thn (ha pos pins s σ H _ I h) λus s1 r9=>by obtain⟨vs,H1,I1,r1,q1⟩:=r9;exact hc pins s1 σ H1 vs us Q I1 r1 q1) he hpl
end
end L2
namespace HT
open PySem PyProof.Rows
section
open PySem.SeqAt
open PySem.AutoSeq1 (wpAny_loadPart')
open PySem.MeetsSeq PySem.MeetsSeq2 PySem.MeetsSeq3
end
section
variable {prog:Program}{w:World}{A:Around}{E:Value->Shared->Prop}{s:Shared}
noncomputable def sIx (n d:Nat):Option Int->Nat
 |none=>d
 |some v=>if v<0 then(v+(n:Int)).toNat else min v.toNat n
theorem sIx_none (n d:Nat):sIx n d none=d:=rfl
theorem sIx_nat (n d k:Nat):sIx n d (some (k:Int))=min k n:=by
 show(if(k:Int)<0 then((k:Int)+(n:Int)).toNat else min (k:Int).toNat n)=min k n
 rw[if_neg (by omega),Int.toNat_natCast]
end
end HT
namespace L2
open PySem PySem.Spec PyProof.Rows
noncomputable abbrev TO:=St->Hp->(Option Int->Hp->Prop)->Prop
noncomputable def PO (X:Cx)(e:Option Expr)(t:TO):Prop:=
 ∀(pins:List (Addr×Obj)) (s:Shared) (σ:St) (H:Hp) (Q:Option Int->Hp->Prop),Inv X pins σ H s->t σ H Q->
  wpAny (model X.prog X.w) X.A (evalPart e X.env) (λu s'=>∃ o H',Inv X pins σ H' s'/\IsPart u o/\Q o H') X.xe s
noncomputable def ER:TO:=λ_ H Q=>Q none H
noncomputable def NW (t:TE):TO:=λσ H Q=>t σ H λx H1=>∃ i,x= .int i/\Q (some i) H1
theorem DJ {ns:List Int}:∀{us:List Value},Ys (ns.map V.int) us->IntsAre us ns:=by
 induction ns with
 |nil=>intro us r;rw[List.map_nil] at r;cases r;exact .nil
 |cons n ns ih=>
  intro us r
  rw[List.map_cons] at r
  cases r with
  |cons r1 r2=>
   obtain⟨t,e⟩:=r1
   subst e
   exact .cons n t (ih r2)
section
variable {X:Cx}{e:Expr}{te:TE}{lo hi:Option Expr}{tl th:TO}{pos p2:Pos}
theorem Ff:PO X none ER:=by
 intro pins s σ H Q I h
 rw[evalPart_none]
 exact wpAny_pure ⟨none,H,I, .none,h⟩
theorem G7 (h:PE X e te):PO X (some e) (NW te):=by
 intro pins s σ H Q I hw
 rw[evalPart_some]
 refine thn (h pins s σ H _ I hw) λu s1 r9=>?_
 obtain⟨x,H1,I1,r1,q1⟩:=r9
 obtain⟨i,rfl,q⟩:=q1
 obtain⟨t,rfl⟩:=r1
 exact⟨some i,H1,I1, .int i t,q⟩
noncomputable def SlR (X:Cx)(r:V->Option Int->Option Int->Hp->VK->Prop):Prop:=
 ∀(pins:List (Addr×Obj)) (s:Shared) (σ:St) (H:Hp) (x:V) (v vl vu:Value) (lo hi:Option Int) (sl:Addr) (Q:VK),Inv X pins σ H s->Yo x v->s.heap.IsSliceOf sl vl vu .none->IsPart vl lo->IsPart vu hi->r x lo hi H Q->
  ∃T id,typeLookup (.type T) "__getitem__" =pure (some (.builtin id))/\s.TypeIs v T/\wpAny (model X.prog X.w) X.A (getItem v (.ref sl)) (EP X pins σ Q) X.xe s
theorem SlR.or {r r':V->Option Int->Option Int->Hp->VK->Prop}(h:SlR X r)(h':SlR X r'):SlR X (λx lo hi H Q=>r x lo hi H Q∨r' x lo hi H Q):=by
 intro pins s σ H x v vl vu lo hi sl Q I rx hs pl pu q
 rcases q with q |q
 ·exact h pins s σ H x v vl vu lo hi sl Q I rx hs pl pu q
 ·exact h' pins s σ H x v vl vu lo hi sl Q I rx hs pl pu q
noncomputable def tSl (r:V->Option Int->Option Int->Hp->VK->Prop)(te:TE)(tl th:TO):TE:=λσ H Q=>te σ H λx H1=>tl σ H1 λl H2=>th σ H2 λu H3=>r x l u H3 Q
theorem Ke {r:V->Option Int->Option Int->Hp->VK->Prop}(hr:SlR X r)(he:PE X e te)(hl:PO X lo tl)(hu:PO X hi th):PE X (.Subscript e (.Slice lo hi none p2) pos) (tSl r te tl th):=by
 intro pins s σ H Q I h
 refine Subscript_ (thn (he pins s σ H _ I h) λv s1 r9=>?_)
 obtain⟨x,H1,I1,r1,q1⟩:=r9
 refine wpAny_Slice (thn (hl pins s1 σ H1 _ I1 q1) λvl s2 ⟨l,H2,I2,pl,q2⟩=>thn (hu pins s2 σ H2 _ I2 q2) λvu s3 r9=>?_)
 obtain⟨u,H3,I3,pu,q3⟩:=r9
 rw[evalPart_none]
 refine wpAny_pure ?_
 have I4:Inv X pins σ H3 {s3 with heap:=s3.heap.push {cls:=.type "slice",data:=.fields #[vl,vu, .none]}}:=I3.kept (t':=s3.toks) λb ob q=>Heap.get?_push_of_some _ q
 obtain⟨T,id,hT,ht,hg⟩:=hr pins {s3 with heap:=s3.heap.push {cls:=.type "slice",data:=.fields #[vl,vu, .none]}} σ H3 x v vl vu l u s3.heap.objs.size Q I4 r1 (Heap.IsSliceOf.new ..) pl pu q3
 show wpAny (model X.prog X.w) X.A (subscriptTail e (.Slice lo hi none p2) v (.ref s3.heap.objs.size)) (EP X pins σ Q) X.xe {s3 with heap:=s3.heap.push {cls:=.type "slice",data:=.fields #[vl,vu, .none]}}
 exact tail_any (ops:=[.ref s3.heap.objs.size,v]) ht hT hg (by with_unfolding_all rfl)
noncomputable def Mq (xs:List V)(lo hi:Option Int):List V:=(xs.drop (HT.sIx xs.length 0 lo)).take (HT.sIx xs.length xs.length hi-HT.sIx xs.length 0 lo)
theorem Fq (xs:List V)(lo hi:Option Int):(Mq xs lo hi).length<=xs.length:=by
 unfold Mq
 rw[List.length_take,List.length_drop]
 omega
end
noncomputable def ixN (n:Nat)(i:Int):Option Nat:=if 0<=i then(if i<n then some i.toNat else none) else if-(n:Int)<=i then some (i+n).toNat else none
noncomputable def atI {α:Type}(xs:List α)(i:Int):Option α:=(ixN xs.length i).bind λj=>xs[j]?
theorem Cz {n:Nat}{i:Int}{j:Nat}(h:ixN n i=some j):seqIndex? i n=some j/\j<n/\ -(n:Int)<=i/\i<n:=by
 unfold ixN at h
 by_cases h0:0<=i
 ·rw[if_pos h0] at h
  by_cases h1:i<n
  ·rw[if_pos h1] at h
   have e:i.toNat=j:=Option.some.inj h
   exact⟨by rw[seqIndex_of h0 h1,e],by omega,by omega,h1⟩
  ·rw[if_neg h1] at h;cases h
 ·rw[if_neg h0] at h
  by_cases h1: -(n:Int)<=i
  ·rw[if_pos h1] at h
   have e:(i+n).toNat=j:=Option.some.inj h
   exact⟨by rw[seqIndex_neg (by omega) h1,e],by omega,h1,by omega⟩
  ·rw[if_neg h1] at h;cases h
theorem GK {α:Type}{xs:List α}{i:Int}{v:α}(h:atI xs i=some v):∃j,seqIndex? i xs.length=some j/\xs[j]?=some v/\j<xs.length/\ -(xs.length:Int)<=i/\i<xs.length:=by
 unfold atI at h
 cases e:ixN xs.length i with
 |none=>rw[e] at h;cases h
 |some j=>
  rw[e] at h
  obtain⟨h1,h2,h3,h4⟩:=Cz e
  exact⟨j,h1,h,h2,h3,h4⟩
noncomputable def Md (b:Expr):Prop:=∀ o i,subscripted b false o i=operate [o,i] (getItem o i)
noncomputable def IxR (X:Cx)(r:R2):Prop:=
 ∀(value slice:Expr) (pins:List (Addr×Obj)) (s:Shared) (σ:St) (H:Hp) (x y:V) (v u:Value) (Q:VK),Inv X pins σ H s->Yo x v->Yo y u->r x y H Q->
  subscripted slice false v u=operate [v,u] (getItem v u)->wpAny (model X.prog X.w) X.A (subscriptTail value slice v u) (EP X pins σ Q) X.xe s
noncomputable def MtR (X:Cx)(id:String)(r:V->List V->Hp->VK->Prop):Prop:=
 ∀(pins:List (Addr×Obj)) (s:Shared) (σ:St) (H:Hp) (x:V) (xs:List V) (v:Value) (us:List Value) (Q:VK),Inv X pins σ H s->Yo x v->Ys xs us->r x xs H Q->
  wpAny (model X.prog X.w) X.A (call (.builtin id) (v::us)) (EP X pins σ Q) X.xe s
section
variable {X:Cx}{a b:Expr}{ta tb:TE}{pos:Pos}
theorem IxR.or {r r':R2}(h:IxR X r)(h':IxR X r'):IxR X (λx y H Q=>r x y H Q∨r' x y H Q):=by
 intro value slice pins s σ H x y v u Q I rx ry q hs
 rcases q with q |q
 ·exact h value slice pins s σ H x y v u Q I rx ry q hs
 ·exact h' value slice pins s σ H x y v u Q I rx ry q hs
theorem MtR.or {id:String}{r r':V->List V->Hp->VK->Prop}(h:MtR X id r)(h':MtR X id r'):MtR X id (λx xs H Q=>r x xs H Q∨r' x xs H Q):=by
 intro pins s σ H x xs v us Q I rx rs q
 rcases q with q |q
 ·exact h pins s σ H x xs v us Q I rx rs q
 ·exact h' pins s σ H x xs v us Q I rx rs q
theorem XJ {r:R2}(hr:IxR X r)(ha:PE X a ta)(hb:PE X b tb)(hs:Md b):PE X (.Subscript a b pos) (tOp r ta tb):=by
 intro pins s σ H Q I h
 exact Subscript_ (Os ha hb I h λv u s2 x y H2 I2 rx ry q=>hr a b pins s2 σ H2 x y v u Q I2 rx ry q (hs _ _))
noncomputable def Ib (K:PySem.W.Frag):R2:=λx y H Q=>∃ p xs i v,x= .ref p/\y= .int i/\SqL K H p xs/\atI xs i=some v/\Q v H
noncomputable def Mo (K:PySem.W.Frag):R2:=λx y H Q=>∃ p xs i v,x= .ref p/\y= .int i/\SqT K H p xs/\atI xs i=some v/\Q v H
theorem Lm:IxR X (Ib X.K):=by
 intro value slice pins s σ H x y v u Q I rx ry h hs
 obtain⟨p,xs,i,z,rfl,rfl,hq,he,q⟩:=h
 cases rx
 obtain⟨t,rfl⟩:=ry
 obtain⟨its,r,pl,hz⟩:=I.list hq
 obtain⟨j,h1,h2,h3,h4,h5⟩:=GK he
 obtain⟨w,ew,rw'⟩:=r.get h2
 have hl:=r.length
 have hn:=Gc
 have fin:EP X pins σ Q w s:=⟨z,H,I,rw',q⟩
 by_cases h0:0<=i
 ·have hj:i.toNat=j:=by
   rw[seqIndex_of h0 h5] at h1
   exact Option.some.inj h1
  exact item_listR pl.isList h0 (by omega) (by rw[hj];simpa using ew) fin hs
 ·have hj:(i+(its.toArray.size:Int)).toNat=j:=by
   rw[seqIndex_neg (by omega) h4] at h1
   rw[List.size_toArray, ←hl]
   exact Option.some.inj h1
  exact subscriptTail_builtinR (x:=w) pl.isList.typeIs slot_list_getitem.lookup
   (wpAny_getItem_list_neg (Q:=λr s'=>r=w/\EP X pins σ Q r s') pl.isList (by omega) (by rw[List.size_toArray]<;> omega) (by omega) (by rw[hj];simpa using ew) ⟨rfl,fin⟩) hs
theorem M0:IxR X (Mo X.K):=by
 intro value slice pins s σ H x y v u Q I rx ry h hs
 obtain⟨p,xs,i,z,rfl,rfl,hq,he,q⟩:=h
 cases rx
 obtain⟨t,rfl⟩:=ry
 obtain⟨its,r,pl,hz⟩:=I.tuple hq
 obtain⟨j,h1,h2,h3,h4,h5⟩:=GK he
 obtain⟨w,ew,rw'⟩:=r.get h2
 have hl:=r.length
 have hn:=Gc
 have fin:EP X pins σ Q w s:=⟨z,H,I,rw',q⟩
 exact subscriptTail_builtinR (x:=w) pl.typeIs slot_tuple_getitem.lookup
  (getItem_tuple (j:=j) (Q:=λr s'=>r=w/\EP X pins σ Q r s') pl (by omega) (by omega) (by rw[List.size_toArray, ←hl];exact h1) (by simpa using ew) ⟨rfl,fin⟩) hs
theorem DV (its:List Value)(n j:Nat)(u:Value):Obj.mapSeq (·.setIfInBounds j u) {cls:=.type "list",data:=.seq its.toArray n}={cls:=.type "list",data:=.seq (its.set j u).toArray n}:=by
 simp[Obj.mapSeq]
theorem Inv.lst {pins:List (Addr×Obj)}{σ:St}{H:Hp}{s:Shared}{p:Addr}{xs:List V}(I:Inv X pins σ H s)(h:H p=some (.lst xs)):
  ∃(its:List Value) (n:Nat),Ys xs its/\s.heap.get? p=some {cls:=.type "list",data:=.seq its.toArray n}/\xs.length<=sizeLine:=by
 obtain⟨z,its,n,r,e⟩:=I.hok p _ h
 exact⟨its,n,r,e,z⟩
theorem Inv.lstUpd {pins:List (Addr×Obj)}{σ:St}{H:Hp}{s:Shared}{p:Addr}{xs ys:List V}{its its':List Value}{n n':Nat}{f:Obj->Obj}(I:Inv X pins σ H s)(h:H p=some (.lst xs))
  (ho:s.heap.get? p=some {cls:=.type "list",data:=.seq its.toArray n})(hf:f {cls:=.type "list",data:=.seq its.toArray n}={cls:=.type "list",data:=.seq its'.toArray n'})(r:Ys ys its')(hz:ys.length<=sizeLine)(t:Nat):
  Inv X pins σ (upd H p (.lst ys)) {s with heap:=s.heap.update p f,toks:=t}:=by
 have e:(s.heap.update p f).get? p=some {cls:=.type "list",data:=.seq its'.toArray n'}:=by
  rw[Heap.get?_update_self f ho (by rw[hf]<;> rfl),hf]
 refine I.write (x:=p) (e:=p) (by rw[h];trivial) (.inl rfl) (λb u hb q=>(Heap.get?_update_other _ _ (Ne.symm hb)).trans q) ⟨_,e⟩ ?_
 exact⟨hz,its',n',r,e⟩
noncomputable def IZ:V->V->V->Hp->(Hp->Prop)->Prop:=λo i v H Q=>∃ p xs k j,o= .ref p/\i= .int k/\H p=some (.lst xs)/\ixN xs.length k=some j/\Q (upd H p (.lst (xs.set j v)))
theorem Zv:N5 X IZ:=by
 intro pins s σ H o i v ov iv u Q I ro ri rv h
 obtain⟨p,xs,k,j,rfl,rfl,hp,hj,q⟩:=h
 cases ro
 obtain⟨t,rfl⟩:=ri
 obtain⟨its,n,r,ho,hz⟩:=I.lst hp
 obtain⟨h1,h2,h3,h4⟩:=Cz hj
 have hl:=r.length
 have hn:=Gc
 have I':Inv X pins σ (upd H p (.lst (xs.set j v))) {s with heap:=s.heap.update p (Obj.mapSeq (·.setIfInBounds j u))}:=
  I.lstUpd hp ho (DV its n j u) (r.set rv j) (by rw[List.length_set];exact hz) s.toks
 by_cases h0:0<=k
 ·have hk:k.toNat=j:=by
   rw[seqIndex_of h0 h4] at h1
   exact Option.some.inj h1
  exact PySem.W.ki_setAt ho h0 (by omega) (by rw[List.size_toArray, ←hl];exact h4) (by rw[hk];exact⟨_,I',q⟩)
 ·have hk:(k+(its.toArray.size:Int)).toNat=j:=by
   rw[seqIndex_neg (by omega) h3] at h1
   rw[List.size_toArray, ←hl]
   exact Option.some.inj h1
  exact PySem.W.ki_setBack ho (by omega) (by rw[List.size_toArray, ←hl];exact h3) (by omega) (by rw[hk];exact⟨_,I',q⟩)
theorem KZ (lo hi:Option Int)(n:Nat):(sliceBounds lo hi none n).1=((HT.sIx n 0 lo:Nat):Int)/\(sliceBounds lo hi none n).2.1=((HT.sIx n n hi:Nat):Int)/\(sliceBounds lo hi none n).2.2=1:=by
 refine⟨?_,?_,rfl⟩
 ·cases lo with
  |none=>simp[sliceBounds,HT.sIx]
  |some i=>
   simp only[sliceBounds,HT.sIx,Option.getD_none,show(1:Int) > 0 by decide,if_true]
   by_cases h:i<0
   ·simp only[h,if_true]<;> omega
   ·simp only[h,if_false]<;> omega
 ·cases hi with
  |none=>simp[sliceBounds,HT.sIx]
  |some i=>
   simp only[sliceBounds,HT.sIx,Option.getD_none,show(1:Int) > 0 by decide,if_true]
   by_cases h:i<0
   ·simp only[h,if_true]<;> omega
   ·simp only[h,if_false]<;> omega
theorem Kp (its:List Value)(lo hi:Option Int):slicePick its.toArray lo hi none=((its.drop (HT.sIx its.length 0 lo)).take (HT.sIx its.length its.length hi-HT.sIx its.length 0 lo)).toArray:=by
 obtain⟨h1,h2,h3⟩:=KZ lo hi its.toArray.size
 unfold slicePick
 rw[h1,h2,h3]
 simp only[sliceRange_one,pick_run,List.size_toArray]<;> rfl
noncomputable def N1 (K:PySem.W.Frag):V->Option Int->Option Int->Hp->VK->Prop:=λx lo hi H Q=>∃ a xs,x= .ref a/\SqL K H a xs/\∀p,H p=none->Q (.ref p) (upd H p (.lst (Mq xs lo hi)))
theorem L8:SlR X (N1 X.K):=by
 intro pins s σ H x v vl vu lo hi sl Q I rx hs pl pu h
 obtain⟨a,xs,rfl,hx,q⟩:=h
 cases rx
 obtain⟨its,r,ht,hz⟩:=I.list hx
 have hlen:=r.length
 refine⟨"list",_,slot_list_getitem.lookup,ht.isList.typeIs,?_⟩
 refine wpAny_getItem_list_slice ht.isList hs pl pu .none (by simp) ?_ (by rw[List.size_toArray]<;> omega)
 rw[Kp, ←hlen]
 refine⟨.ref s.heap.objs.size,_,I.laid (t':=s.toks) (o:=.lst (Mq xs lo hi)) (λb ob q=>Heap.get?_push_of_some _ q) (Nat.le_refl _) ?_,rfl,q _ (I.hok.fresh (Nat.le_refl _))⟩
 exact⟨Nat.le_trans (Fq xs lo hi) hz,_,0,(r.drop (HT.sIx xs.length 0 lo)).take (HT.sIx xs.length xs.length hi-HT.sIx xs.length 0 lo),Heap.get?_push_size _ rfl⟩
noncomputable def Vr:V->Bool
 | .non=>true
 | .bl _=>true
 | .int _=>true
 | .str _=>true
 |_=>false
noncomputable def eqV:V->V->Bool
 | .non, .non=>true
 | .bl a, .bl b=>a==b
 | .bl a, .int b=>(if a then 1 else 0)==b
 | .int a, .bl b=>a==(if b then 1 else 0)
 | .int a, .int b=>a==b
 | .str a, .str b=>a==b
 |_,_=>false
theorem Nv {A:Around}{s:Shared}{y x:V}{u v:Value}(ry:Yo y u)(rx:Yo x v)(fy:Vr y=true)(fx:Vr x=true):SeqAt.EqAt A s u v (eqV y x):=by
 cases y with
 |non=>
  cases ry
  cases x with
  |non=>cases rx;exact SeqAt.EqAt.same _
  |bl b=>cases rx;exact SeqAt.EqAt.none_bool b
  |int b=>obtain⟨t,rfl⟩:=rx;exact SeqAt.EqAt.none_int b t
  |str b=>obtain⟨t,rfl⟩:=rx;exact SeqAt.EqAt.none_str b t
  |_=>exact absurd (show false=true from fx) Bool.false_ne_true
 |bl a=>
  cases ry
  cases x with
  |non=>cases rx;exact SeqAt.EqAt.bool_none a
  |bl b=>cases rx;exact SeqAt.EqAt.bool_bool a b
  |int b=>obtain⟨t,rfl⟩:=rx;exact SeqAt.EqAt.bool_int a b t
  |str b=>obtain⟨t,rfl⟩:=rx;exact SeqAt.EqAt.bool_str a b t
  |_=>exact absurd (show false=true from fx) Bool.false_ne_true
 |int a=>
  obtain⟨t',rfl⟩:=ry
  cases x with
  |non=>cases rx;exact SeqAt.EqAt.int_none a t'
  |bl b=>cases rx;exact SeqAt.EqAt.int_bool a t' b
  |int b=>obtain⟨t,rfl⟩:=rx;exact SeqAt.EqAt.int_int a t' b t
  |str b=>obtain⟨t,rfl⟩:=rx;exact SeqAt.EqAt.int_str a t' b t
  |_=>exact absurd (show false=true from fx) Bool.false_ne_true
 |str a=>
  obtain⟨t',rfl⟩:=ry
  cases x with
  |non=>cases rx;exact SeqAt.EqAt.str_none a t'
  |bl b=>cases rx;exact SeqAt.EqAt.str_bool a t' b
  |int b=>obtain⟨t,rfl⟩:=rx;exact SeqAt.EqAt.str_int a t' b t
  |str b=>obtain⟨t,rfl⟩:=rx;exact SeqAt.EqAt.str_str a t' b t
  |_=>exact absurd (show false=true from fx) Bool.false_ne_true
 |_=>exact absurd (show false=true from fy) Bool.false_ne_true
noncomputable def eqU (x:V)(u:Value):Bool:=match u with
 | .none=>eqV .non x
 | .bool b=>eqV (.bl b) x
 | .int i _=>eqV (.int i) x
 | .str z _=>eqV (.str z) x
 |_=>false
theorem CB {x y:V}{u:Value}(r:Yo y u)(f:Vr y=true):eqU x u=eqV y x:=by
 cases y with
 |non=>cases r;rfl
 |bl b=>cases r;rfl
 |int i=>obtain⟨t,rfl⟩:=r;rfl
 |str z=>obtain⟨t,rfl⟩:=r;rfl
 |_=>exact absurd (show false=true from f) Bool.false_ne_true
theorem Fs {x:V}:∀{xs:List V}{us:List Value},Ys xs us->xs.all Vr=true->us.any (eqU x)=xs.any λy=>eqV y x
 |_,_, .nil,_=>rfl
 |y::xs,u::us, .cons r t,f=>by
  rw[List.all_cons,Bool.and_eq_true] at f
  rw[List.any_cons,List.any_cons,CB r f.1,Fs t f.2]
theorem VB {A:Around}{s:Shared}{x:V}{v:Value}(rx:Yo x v)(fx:Vr x=true):∀{xs:List V}{us:List Value},Ys xs us->xs.all Vr=true->∀u∈us,SeqAt.EqAt A s u v (eqU x u)
 |_,_, .nil,_=>λu hu=>by cases hu
 |y::xs,u::us, .cons r t,f=>λu' hu=>by
  rw[List.all_cons,Bool.and_eq_true] at f
  rcases List.mem_cons.mp hu with rfl |hu
  ·rw[CB r f.1];exact Nv r rx f.1 fx
  ·exact VB rx fx t f.2 u' hu
noncomputable def inV (x:V)(xs:List V):Bool:=xs.any λy=>eqV y x
noncomputable def rIn (K:PySem.W.Frag)(neg:Bool):R2:=λx y H Q=>∃ p xs,y= .ref p/\(SqL K H p xs∨SqT K H p xs)/\Vr x=true/\xs.all Vr=true/\Q (.bl (if neg then !inV x xs else inV x xs)) H
theorem Gv:OpR X (compareOp .In) (rIn X.K false):=by
 intro pins s σ H x y v u Q I rx ry h
 obtain⟨p,xs,rfl,hq,fx,fs,q⟩:=h
 cases ry
 rcases hq with hq |hq
 ·obtain⟨its,r,pl,hz⟩:=I.list hq
  refine SeqAt.in_listAt (eqU x) pl.isList (λw hw=>VB rx fx r fs w (by simpa using hw)) ⟨.bl _,H,I,rfl,?_⟩
  rw[show its.toArray.any (eqU x)=its.any (eqU x) by simp,Fs r fs]
  exact q
 ·obtain⟨its,r,pl,hz⟩:=I.tuple hq
  refine SeqAt.in_tupleAt (eqU x) pl (λw hw=>VB rx fx r fs w (by simpa using hw)) ⟨.bl _,H,I,rfl,?_⟩
  rw[show its.toArray.any (eqU x)=its.any (eqU x) by simp,Fs r fs]
  exact q
theorem Gs:QK X (.builtin "len") (λxs H Q=>∃ p ys,xs=[.ref p]/\(SqL X.K H p ys∨SqT X.K H p ys)/\Q (.int ys.length) H):=by
 intro pins s σ H xs us Q I r h
 obtain⟨p,ys,rfl,hq,q⟩:=h
 obtain⟨u,rfl,rx⟩:=DC r
 cases rx
 have hn:=Gc
 rcases hq with hq |hq
 ·obtain⟨its,r',pl,hz⟩:=I.list hq
  have hlen:=r'.length
  exact Calls.call_len_list pl.isList (by simp only[List.size_toArray]<;> omega) ⟨.int ys.length,H,I.tok _,⟨s.toks+1,by rw[List.size_toArray,hlen]⟩,q⟩
 ·obtain⟨its,r',pl,hz⟩:=I.tuple hq
  have hlen:=r'.length
  exact len_tuple pl (by simp only[List.size_toArray]<;> omega) ⟨.int ys.length,H,I.tok _,⟨s.toks+1,by rw[List.size_toArray,hlen]⟩,q⟩
theorem QK.or {f:Value}{r r':List V->Hp->VK->Prop}(h:QK X f r)(h':QK X f r'):QK X f (λxs H Q=>r xs H Q∨r' xs H Q):=by
 intro pins s σ H xs us Q I rs q
 rcases q with q |q
 ·exact h pins s σ H xs us Q I rs q
 ·exact h' pins s σ H xs us Q I rs q
theorem Gu:QK X (.type "list") (λxs H Q=>∃ p ys,xs=[.ref p]/\(SqL X.K H p ys∨SqT X.K H p ys)/\∀l,H l=none->Q (.ref l) (upd H l (.lst ys))):=by
 intro pins s σ H xs us Q I r h
 obtain⟨p,ys,rfl,hq,q⟩:=h
 obtain⟨u,rfl,rx⟩:=DC r
 cases rx
 have fin:∀(its:List Value),Ys ys its->ys.length<=sizeLine->∀(h':Heap) (c':Nat),(∀b o',s.heap.get? b=some o'->h'.get? b=some o')->
   h'.get? s.heap.objs.size=some {cls:=.type "list",dict:=none,data:=.seq its.toArray c',slots:=#[]}->EP X pins σ Q (.ref s.heap.objs.size) {s with heap:=h'}:=λits r' hz h' c' kp e=>
  ⟨.ref s.heap.objs.size,_,I.laid (t':=s.toks) kp (Nat.le_refl _) (show Y3 X.prog X.w _ h' _ (.lst ys) from⟨hz,its,c',r',e⟩),rfl,q _ (I.hok.fresh (Nat.le_refl _))⟩
 rcases hq with hq |hq
 ·obtain⟨its,r',pl,hz⟩:=I.list hq
  have hlen:=r'.length
  obtain⟨o,ho,hc,n,hd⟩:=pl.isList
  exact call_list_seq p (.inl rfl) ho hc hd (λh' c' kp e=>fin its r' hz h' c' kp e) (by simp only[List.size_toArray]<;> omega)
 ·obtain⟨its,r',pl,hz⟩:=I.tuple hq
  have hlen:=r'.length
  obtain⟨o,ho,hc,n,hd⟩:=pl
  exact call_list_seq p (.inr rfl) ho hc hd (λh' c' kp e=>fin its r' hz h' c' kp e) (by simp only[List.size_toArray]<;> omega)
noncomputable def tyV (K:PySem.W.Frag)(T:String)(x:V)(H:Hp):Prop:=match x with
 | .str _=>T= "str"
 | .int _=>T= "int"
 | .ref p=>(T= "list" /\∃xs,SqL K H p xs)∨(T= "tuple" /\∃o,K.lookup p=some o/\o.cls= .type "tuple" /\o.dict=none)∨
   (T= "dict" /\((∃kvs,H p=some (.dK kvs))∨∃kvs,H p=some (.dT kvs)))∨(T= "set" /\∃S n,H p=some (.set S n))
 |_=>False
theorem Na {pins:List (Addr×Obj)}{σ:St}{H:Hp}{s:Shared}{T:String}{x:V}{v:Value}(I:Inv X pins σ H s)(r:Yo x v)(ty:tyV X.K T x H):
  s.TypeIs v T/\∀a,v= .ref a->∃ob,s.heap.get? a=some ob/\ob.dict=none:=by
 cases x with
 |str z=>
  obtain⟨t,rfl⟩:=r
  cases(show T= "str" from ty)
  exact⟨typeIs_str s z t,λ_ e=>nomatch e⟩
 |int i=>
  obtain⟨t,rfl⟩:=r
  cases(show T= "int" from ty)
  exact⟨typeIs_int s i t,λ_ e=>nomatch e⟩
 |ref p=>
  cases r
  rcases ty with⟨rfl,xs,hq⟩ | ⟨rfl,o,hk,hc,hd⟩ | ⟨rfl,hk⟩ | ⟨rfl,S,n,hk⟩
  ·obtain⟨its,_,pl,_⟩:=I.list hq
   refine⟨pl.isList.typeIs,λa e=>?_⟩
   cases e
   obtain⟨o,n,e,c,hd,_⟩:=pl
   exact⟨o,e,hd⟩
  ·refine⟨⟨o,I.kIn p o hk,hc⟩,λa e=>?_⟩
   cases e
   exact⟨o,I.kIn _ o hk,hd⟩
  ·have z:∃o,s.heap.get? p=some o/\o.ExactDict:=by
    rcases hk with⟨kvs,hk⟩ | ⟨kvs,hk⟩
    ·obtain⟨_,_,_,_,o,_,_,e,ex,_⟩:=I.hok p _ hk
     exact⟨o,e,ex⟩
    ·obtain⟨_,_,_,_,o,_,_,e,ex,_⟩:=I.hok p _ hk
     exact⟨o,e,ex⟩
   obtain⟨o,e,ex⟩:=z
   refine⟨⟨o,e,ex.1⟩,λa e2=>?_⟩
   cases e2
   exact⟨o,e,ex.2.1⟩
  ·obtain⟨o,_,_,_,e,ex,_⟩:=I.hok p _ hk
   refine⟨⟨o,e,ex.1⟩,λa e2=>?_⟩
   cases e2
   exact⟨o,e,ex.2.1⟩
 |_=>exact False.elim ty
noncomputable def tBM (K:PySem.W.Frag)(T:String)(r:V->List V->Hp->VK->Prop)(to:TE)(t:TA):TE:=λσ H Q=>to σ H λx H1=>tyV K T x H1/\t σ H1 λxs H2=>r x xs H2 Q
variable {o e:Expr}{es:List Expr}{to:TE}{t:TA}{name:Str}{apos cpos:Pos}{T id:String}{r:V->List V->Hp->VK->Prop}
theorem ZP (pa:PlainAttrs T)(slot:Slot T name id)(hty:typeOf (.builtin id)=pure (.type "method_descriptor"))(hm:MtR X id r)(ho:PE X o to)(ha:PA X (e::es) t)
  (hbase:attributeBase o name X.env (eval o X.env)=eval o X.env:=by rfl)
  (hfew:((backTo cpos (starEach (e::es) X.env)).all (λx=>!x.1)&&(backToKw cpos (keywordEach [] X.env)).all (λx=>x.1.isSome)
   &&decide ((e::es).length+([]:List Keyword).length+(if([]:List Keyword).isEmpty then 0 else 1)<30))=true:=by rfl)
  (hline:(apos.endLine==cpos.line)=true:=by rfl)(hs:starEach (e::es) X.env=(false,eval e X.env)::starEach es X.env:=by rfl)(hplain:(backTo cpos (starEach es X.env)).any (·.1)=false:=by rfl):
  PE X (.Call (.Attribute o name apos) (e::es) [] cpos) (tBM X.K T r to t):=by
 intro pins s σ H Q I h
 refine wpAny_Call_method_late hbase hfew hline rfl (thn (ho pins s σ H _ I h) λv s1 r9=>?_)
 obtain⟨x,H1,I1,r1,ty,q1⟩:=r9
 obtain⟨h1,h2⟩:=Na I1 r1 ty
 refine⟨T,id,pa,slot,hty,h1,h2,?_⟩
 have hA:=ha cpos pins s1 σ H1 _ I1 q1
 rw[hs] at hA⊢
 refine Calls.callWith_builtin (by show(false || (backTo cpos (starEach es X.env)).any (·.1))=false;rw[hplain]<;> rfl) (Calls.evalArgs_plain ?_)
 exact thn hA λus s2 r9=>by obtain⟨vs,H2,I2,r2,q2⟩:=r9;exact hm pins s2 σ H2 x vs v us Q I2 r1 r2 q2
/- xs.append(e), list.index on a module's tuple .. are MtR facts of 06m -/
end
noncomputable def MtM (X:Cx)(id:String)(r:V->List V->Hp->VK->Prop):Prop:=
 ∀(pins:List (Addr×Obj)) (s:Shared) (σ:St) (H:Hp) (x:V) (xs:List V) (v:Value) (us:List Value) (Q:VK),Inv X pins σ H s->Yo x v->Ys xs us->r x xs H Q->
  wpAny (model X.prog X.w) X.A (call (.builtin id) (v::us)) (EP X pins σ Q) X.xe s
theorem Ys.one:∀{x:V}{us:List Value},Ys [x] us->∃u,us=[u]/\Yo x u:=fun {x us} h=>by
 cases h with
 |cons r t=>
  cases t
  exact⟨_,rfl,r⟩
theorem Ys.two:∀{x y:V}{us:List Value},Ys [x,y] us->∃u v,us=[u,v]/\Yo x u/\Yo y v:=fun {x y us} h=>by
 cases h with
 |cons r t=>
  cases t with
  |cons q t=>
   cases t
   exact⟨_,_,rfl,r,q⟩
theorem Ys.zero:∀{us:List Value},Ys [] us->us=[]
 |_, .nil=>rfl
theorem Ys.dropLast {xs:List V}{us:List Value}(h:Ys xs us):Ys xs.dropLast us.dropLast:=by
 induction h with
 |nil=>exact .nil
 |cons r t ih=>
  cases t with
  |nil=>exact .nil
  |cons q t'=>exact .cons r ih
theorem Ys.eraseIdx:∀{xs:List V}{us:List Value} (i:Nat),Ys xs us->Ys (xs.eraseIdx i) (us.eraseIdx i)
 |_,_,_, .nil=>.nil
 |_,_,0, .cons _ t=>t
 |_,_,i+1, .cons r t=>.cons r (Ys.eraseIdx i t)
theorem Ys.reverse {xs:List V}{us:List Value}(h:Ys xs us):Ys xs.reverse us.reverse:=by
 induction h with
 |nil=>exact .nil
 |cons r t ih=>rw[List.reverse_cons,List.reverse_cons];exact Ys.append ih (.cons r .nil)
theorem Ys.rep {xs:List V}{us:List Value}(h:Ys xs us):∀k:Nat,Ys (List.replicate k xs).flatten (List.replicate k us).flatten
 |0=>.nil
 |k+1=>by
  rw[List.replicate_succ,List.replicate_succ,List.flatten_cons,List.flatten_cons]
  exact Ys.append h (Ys.rep h k)
theorem K1 {α:Type}:∀(l:List α) (i:Nat),(l.eraseIdx i).length<=l.length
 | [],_=>Nat.le_refl _
 |_::_,0=>Nat.le_succ _
 |_::r,i+1=>Nat.succ_le_succ (K1 r i)
theorem Gk (its:List Value):∀(k:Nat) (acc:List Value),
  List.foldl (λx1 x2=>x1++x2) acc.toArray (List.replicate k its.toArray)=(acc++(List.replicate k its).flatten).toArray
 |0,acc=>by simp
 |k+1,acc=>by
  have e:acc.toArray++its.toArray=(acc++its).toArray:=by simp
  have e2:(acc++its)++(List.replicate k its).flatten=acc++(List.replicate (k+1) its).flatten:=by
   rw[List.replicate_succ,List.flatten_cons,List.append_assoc]
  rw[←e2, ←Gk its k (acc++its), ←e,List.replicate_succ,List.foldl_cons]
section
variable {X:Cx}{pins:List (Addr×Obj)}{σ:St}{H:Hp}{s:Shared}{l b:Addr}{xs ys zs:List V}
theorem Inv.lset {its its':List Value}{n:Nat}{f:Array Value->Array Value}{t':Nat}(I:Inv X pins σ H s)(hH:H l=some (.lst xs))
  (e:s.heap.get? l=some {cls:=.type "list",data:=.seq its.toArray n})(hf:f its.toArray=its'.toArray)(hv:Ys ys its')(hz:ys.length<=sizeLine):
  Inv X pins σ (upd H l (.lst ys)) {s with heap:=s.heap.update l (Obj.mapSeq f),toks:=t'}:=by
 have q:=PySem.IsL.update e f
 rw[hf] at q
 refine I.write (x:=l) (e:=l) (by rw[hH];exact trivial) (.inl rfl) (λb' u hb hu=>(Heap.get?_update_other s.heap (Obj.mapSeq f) (Ne.symm hb)).trans hu) ⟨_,q⟩ ?_
 exact⟨hz,its',_,hv,q⟩
theorem Inv.lnew {its:List Value}{t':Nat}(I:Inv X pins σ H s)(hv:Ys ys its)(hz:ys.length<=sizeLine):
  Inv X pins σ (upd H s.heap.objs.size (.lst ys)) {s with heap:=s.heap.push {cls:=.type "list",data:=.seq its.toArray},toks:=t'}:=
 I.laid (λ_ _ q=>Heap.get?_push_of_some _ q) (Nat.le_refl _) ⟨hz,its,0,hv,Heap.get?_push_size _ rfl⟩
theorem Inv.fresh (I:Inv X pins σ H s):H s.heap.objs.size=none:=I.hok.fresh (Nat.le_refl _)
theorem Inv.lstM (I:Inv X pins σ H s)(hH:H l=some (.lst xs)):xs.length<=sizeLine/\∃(its:List Value) (n:Nat),Ys xs its/\xs.length=its.length/\s.heap.get? l=some {cls:=.type "list",data:=.seq its.toArray n}:=by
 obtain⟨z,its,n,r,e⟩:=I.hok l _ hH
 exact⟨z,its,n,r,r.length,e⟩
theorem Dn {n:Nat}(h:n<=sizeLine):Builtin.List.listTooLong n=false:=by
 unfold Builtin.List.listTooLong
 exact decide_eq_false (by omega)
end
section
variable {X:Cx}
noncomputable def Kx:V->List V->Hp->VK->Prop:=λx vs H Q=>∃ l xs y,x= .ref l/\vs=[y]/\H l=some (.lst xs)/\xs.length<sizeLine/\Q .non (upd H l (.lst (xs++[y])))
theorem XX:MtM X "list.append" Kx:=by
 intro pins s σ H x vs v us Q I rx rv h
 obtain⟨l,xs,y,rfl,rfl,hH,hz,q⟩:=h
 cases rx
 obtain⟨u,rfl,ru⟩:=rv.one
 obtain⟨z,its,n,r,hl,e⟩:=I.lstM hH
 refine call_meets F.slot_list_append ⟨_,e,rfl⟩ F.entry_list_append (F.args_list_append_2 _ _) (PySem.list_append l its.toArray n u (by rw[List.size_toArray];omega)) ⟨e,?_⟩
 refine⟨.non,_,I.lset (its':=its++[u]) hH e (by simp) (r.append (.cons ru .nil)) ?_,rfl,q⟩
 rw[List.length_append,List.length_singleton]
 omega
noncomputable def BO:V->List V->Hp->VK->Prop:=λx vs H Q=>∃ l b xs zs,x= .ref l/\vs=[.ref b]/\H l=some (.lst xs)/\H b=some (.lst zs)/\xs.length+zs.length<=sizeLine/\Q .non (upd H l (.lst (xs++zs)))
theorem El:MtM X "list.extend" BO:=by
 intro pins s σ H x vs v us Q I rx rv h
 obtain⟨l,b,xs,zs,rfl,rfl,hH,hB,hz,q⟩:=h
 cases rx
 obtain⟨u,rfl,ru⟩:=rv.one
 cases ru
 obtain⟨z,its,n,r,hl,e⟩:=I.lstM hH
 obtain⟨z2,its2,n2,r2,hl2,e2⟩:=I.lstM hB
 have hsz:its.toArray.size+its2.toArray.size<=sizeLine:=by rw[List.size_toArray,List.size_toArray];omega
 have hlong:¬(!its.toArray.isEmpty&&Builtin.List.listTooLong (its.toArray.size+its2.toArray.size))=true:=by
  rw[Dn hsz,Bool.and_false]
  exact Bool.false_ne_true
 refine call_meets F.slot_list_extend ⟨_,e,rfl⟩ F.entry_list_extend (F.args_list_extend_2 _ _)
  (AutoSeq1.list_extend_list_list_0 l its.toArray n b its2.toArray n2 hlong (by rw[List.size_toArray];omega) (by omega)) ⟨e,e2,?_⟩
 refine⟨.non,_,I.lset (its':=its++its2) hH e (by simp) (r.append r2) ?_,rfl,q⟩
 rw[List.length_append]
 omega
noncomputable def FY:V->List V->Hp->VK->Prop:=λx vs H Q=>∃ l xs i k y,x= .ref l/\vs=[.int i]/\H l=some (.lst xs)/\ -(2^63)<=i/\i<2^63/\seqIndex? i xs.length=some k/\xs[k]?=some y/\Q y (upd H l (.lst (xs.eraseIdx k)))
theorem F8:MtM X "list.pop" FY:=by
 intro pins s σ H x vs v us Q I rx rv h
 obtain⟨l,xs,i,k,y,rfl,rfl,hH,h1,h2,hk,hy,q⟩:=h
 cases rx
 obtain⟨u,rfl,ru⟩:=rv.one
 obtain⟨t,rfl⟩:=ru
 obtain⟨z,its,n,r,hl,e⟩:=I.lstM hH
 obtain⟨w,hw,rw'⟩:=r.get hy
 refine call_meets F.slot_list_pop ⟨_,e,rfl⟩ F.entry_list_pop (F.args_list_pop_2 _ _)
  (MeetsSeq.list_pop_at l its.toArray n i t k w (fitsIndex_both h1 h2) (by rw[List.size_toArray, ←hl];exact hk) (by rw[←Array.getElem?_toList];exact hw) (by rw[List.size_toArray];omega)) ⟨e,?_⟩
 refine⟨y,_,I.lset (its':=its.eraseIdx k) hH e ?_ (r.eraseIdx k) ?_,rw',q⟩
 ·show its.toArray.eraseIdxIfInBounds k=(its.eraseIdx k).toArray
  rw[List.eraseIdxIfInBounds_toArray]
 ·have:=K1 xs k
  omega
noncomputable def N6:R2:=λx y H Q=>∃ l b xs zs,x= .ref l/\y= .ref b/\H l=some (.lst xs)/\H b=some (.lst zs)/\xs.length+zs.length<=sizeLine/\∀p,H p=none->Q (.ref p) (upd H p (.lst (xs++zs)))
theorem KM:OpR X (binaryOp .Add) N6:=by
 intro pins s σ H x y v u Q I rx ry h
 obtain⟨l,b,xs,zs,rfl,rfl,hH,hB,hz,q⟩:=h
 cases rx
 cases ry
 obtain⟨z,its,n,r,hl,e⟩:=I.lstM hH
 obtain⟨z2,its2,n2,r2,hl2,e2⟩:=I.lstM hB
 refine PySem.P.add_list e e2 ?_ (by rw[List.size_toArray,List.size_toArray];omega)
 have ea:its.toArray++its2.toArray=(its++its2).toArray:=by simp
 rw[ea]
 exact⟨.ref _,_,I.lnew (t':=s.toks) (r.append r2) (by rw[List.length_append];omega),rfl,q _ I.fresh⟩
noncomputable def OQ:R2:=λx y H Q=>∃ l k xs,x= .ref l/\y= .int k/\H l=some (.lst xs)/\ -(2^63)<=k/\k<2^63/\xs.length*k.toNat<=sizeLine/\
 ∀p,H p=none->Q (.ref p) (upd H p (.lst (List.replicate k.toNat xs).flatten))
theorem LB {α:Type}(xs:List α)(k:Nat):(List.replicate k xs).flatten.length=k*xs.length:=by
 induction k with
 |zero=>simp
 |succ k ih=>rw[List.replicate_succ,List.flatten_cons,List.length_append,ih,Nat.succ_mul,Nat.add_comm]
theorem U0:OpR X (binaryOp .Mult) OQ:=by
 intro pins s σ H x y v u Q I rx ry h
 obtain⟨l,k,xs,rfl,rfl,hH,h1,h2,hz,q⟩:=h
 cases rx
 obtain⟨t,rfl⟩:=ry
 obtain⟨z,its,n,r,hl,e⟩:=I.lstM hH
 have hlen:its.toArray.size*k.toNat<=sizeLine:=by rw[List.size_toArray, ←hl];exact hz
 have hcap:¬its.toArray.size*k.toNat > (2^63-1)/8:=by
  have:(sizeLine:Nat)<=(2^63-1)/8:=by decide
  omega
 have hfit:¬(!Builtin.List.listFitsIndex k)=true:=by
  rw[fitsIndex_both h1 h2]
  exact Bool.false_ne_true
 have hlong:¬Builtin.List.listTooLong (its.toArray.size*k.toNat)=true:=by
  rw[Dn hlen]
  exact Bool.false_ne_true
 have hnew:List.foldl (λx1 x2=>x1++x2) #[] (List.replicate (if its.toArray.isEmpty=true then 0 else k.toNat) its.toArray)=(List.replicate k.toNat its).flatten.toArray:=by
  have f0:∀m:Nat,List.foldl (λx1 x2=>x1++x2) #[] (List.replicate m its.toArray)=(List.replicate m its).flatten.toArray:=λm=>by
   have:=Gk its m []
   rw[List.nil_append] at this
   exact this
  rw[f0]
  cases its with
  |nil=>simp
  |cons a r'=>rw[if_neg (by simp)]
 refine wpAny_binaryOp_repeat_ref (T:="list") (U:="int") (by decide) ⟨_,e,rfl⟩ (λs'=>typeIs_int s' k t) noFill_list_mul F.fills_int_mul F.slot_int_rmul repeat_list F.slot_int_index.lookup
  (call_meets F.slot_int_rmul (typeIs_int s k t) F.entry_int_rmul (F.args_int_rmul_2 _ _) (int___rmul___int_list k t l its.toArray n)
   ⟨e,rfl,⟨_,e,rfl⟩,call_meets F.slot_list_mul ⟨_,e,rfl⟩ F.entry_list_mul (F.args_list_mul_2 _ _) (AutoListH.list___mul___list_int_3 l its.toArray n k t hfit hcap hlong) ⟨e,?_⟩⟩)
 rw[hnew]
 exact⟨.ref _,_,I.lnew (t':=s.toks) (r.rep k.toNat) (by rw[LB,Nat.mul_comm];exact hz),rfl,q _ I.fresh⟩
end
section
variable {prog:Program}{w:World}{A:Around}{E:Value->Shared->Prop}{s:Shared}
end
section
variable {X:Cx}
end
end L2
namespace Att
open PySem PySem.W PySem.Calls PyProof.Rows
theorem Uk {P:Params}{h:Heap}:∀(ns:List Int) (vs:List Value),WellAll P h vs (ns.map WData.int)->IntsAre vs ns:=by
 intro ns
 induction ns with
 |nil=>
  intro vs w
  rw[List.map_nil] at w
  cases w
  exact .nil
 |cons n ns ih=>
  intro vs w
  rw[List.map_cons] at w
  cases w with
  |cons a b=>
   cases a
   exact .cons _ _ (ih _ b)
theorem Cq {l:OpenLaw}{n:Nat}(hn:l.most=some n){P:Params}{h:Heap}{args:List WData}{vals:List Value}
  (hpre:l.row.toRowW.claim.pre args=true)(hwl:WellAll P h vals args):
  ∃a vs ns,vals=[Value.ref a]/\args=[WData.list (ns.map WData.int)]/\h.get? a=some {cls:=.type "list",data:=.seq vs.toArray}/\IntsAre vs ns/\ns.length<=n:=by
 have hsh:WShape.hasAll [] args [.list .int]=true:=(pre_splitW hpre).1
 have hc:l.pre.holds [] {args:=args}=true:=(pre_splitW hpre).2
 obtain⟨d,r,rfl,h1,h2⟩:=hasAllW_cons hsh
 obtain rfl:=hasAllW_nil h2
 obtain⟨xs,rfl,h3⟩:=hasW_list h1
 obtain⟨ns,rfl⟩:=items_int h3
 have hlen:ns.length<=n:=by
  unfold OpenLaw.pre at hc
  have h4:(WTm.not (.lt (.lit (.int (n:Int))) (.len (.arg 0)))).holds [] {args:=[.list (ns.map .int)]}=true:=by
   have h4:=(holds_andW hc).1
   rw[hn] at h4
   exact h4
  have h5:=condW_of h4 (w_not (w_lt w_lit (w_len_list (w_arg rfl))))
  rw[List.length_map] at h5
  refine Nat.le_of_not_lt λq=>?_
  have q':(n:Int)<((ns.length:Nat):Int):=by omega
  first
   | (rw[decide_eq_true q'] at h5;exact absurd h5 (by decide))
   | (simp at h5;omega)
 cases hwl with
 |cons w1 w2=>
  cases w2
  cases w1 with
  |list ho hall=>exact⟨_,_,ns,rfl,rfl,ho,Uk ns _ hall,hlen⟩
theorem Be (l:OpenLaw)(args:List WData):l.row.toRowW.claim.post args (.bool true) args=true:=
 postW_of (r:=l.row.toRowW) (X:=(true==true))
  (show WShape.has [] (.bool true) .bool=true by first |rfl |decide |simp[WShape.has,WShape.arms,WShape.armsAll])
  (show(WTm.eq .res (.lit (.bool true))).value [] {args:=args,res:=some (.bool true),after:=args}=some (.bool (true==true)) from w_eq_bool (w_res rfl) w_lit) rfl
theorem attach_call {l:OpenLaw}{n:Nat}{q:Program}{loose:List Str}{XP:(Str->Option Value)->Heap->Prop}{YP:World->Heap->Prop}{d:DefRec}
  (hn:l.most=some n)(hdf:d.params.defaults=[])
  (call:∀(w:World) (s₀ s₁:Shared) (mg mb:Str->Option Value) (fa:Addr) (o:Obj) (pm cd doc:Value) (a:Addr) (vs:List Value) (ns:List Int),
   Ground q loose [] XP w s₀ mg mb s₁.heap->YP w s₁.heap->
   s₁.heap.get? fa=some o->o.data= .func (docDef d.name d.params d.body d.scope pm cd doc)->s₁.heap.CodeRec cd d.name->mg d.name=some (.ref fa)->
   s₁.heap.get? a=some {cls:=.type "list",data:=.seq vs.toArray}->IntsAre vs ns->ns.length<=n->s₁.gens= #[]->
   codeAny (model l.prog w) callerA (.call (.ref fa) ⟨[.ref a],[]⟩) (λr s'=>r= .ok (.ret (.bool true))/\OldK s₁.heap s'.heap/\s'.os=s₁.os/\AllBare s'.gens) s₁):
  WalkO q loose XP YP l.row.toRowW d [] (λf vs=>PySem.call f vs):=by
 intro w s₀ s₁ mg mb G Y fa o pm cd doc dV kV ho hd hcd hD hmg hg args vals as hpre hlay hrd hwl hlo
 obtain rfl:dV= .none:=Dflts.none hD hdf
 obtain rfl:kV= .none:=Dflts.noKw hD
 obtain⟨a,vs,ns,rfl,rfl,hobj,hints,hlen⟩:=Cq hn hpre hwl
 refine enter_call (codeAny_mono (call w s₀ s₁ mg mb fa o pm cd doc a vs ns G Y ho (fd_plain hd) hcd hmg hobj hints hlen hg) λr s' hq=>?_)
 obtain⟨rfl,h2,h3,h4⟩:=hq
 exact⟨.inl ⟨.bool true, .bool true,[],rfl,λ_=>rfl, .bool true,Be l _,λ_=>⟨List.Pairwise.nil,λ_ hm=>(nomatch hm)⟩⟩,h2,h3,h4⟩
section
variable {prog:Program}{w:World}{A:Around}{E:Value->Shared->Prop}{s:Shared}{K:Frag}
noncomputable def OA (h:Heap)(L d:Addr):List (Addr×Obj):=(List.range h.objs.size).filterMap λa=>if a=L∨a=d then none else(h.get? a).map λo=>(a,o)
end
end Att
namespace L2
open PySem PySem.Spec PyProof.Rows
theorem Em:∀{vs:List Value}{ns:List Int},IntsAre vs ns->Ys (ns.map V.int) vs:=λp=>by
 induction p with
 |nil=>exact .nil
 |cons n t _ ih=>exact .cons ⟨t,rfl⟩ ih
noncomputable def Od (H:Hp):Prop:=∀ b,H b=none∨∃o xs,H b=some (.frz o (.lst xs))
theorem E1 {P:Program}{w:World}{K:PySem.W.Frag}{mg mb:Str->Option Value}{CX:CXT}{k:Nat}{fa a:Addr}{fd:FuncData}{x:Str}{sp:Sp}{s₁:Shared}{vs:List Value}{ns:List Int}
  (KX:K.In s₁.heap)(hns:s₁.heap.Ns mainGlobals mg)(hb:s₁.heap.Ns builtinsNs mb)(hbb:∀x:Str,x≠ "__name__" ->mb x=bootBuiltins x)(hlim:s₁.heap.NoLimit)(hg:s₁.gens= #[])
  (ha:s₁.heap.get? a=some {cls:=.type "list",data:=.seq vs.toArray})(hi:IntsAre vs ns)(hl:ns.length<=sizeLine)(hr:Room k callerA)
  (F:∀base:Heap,K.In base->base.Ns mainGlobals mg->FnOk P w K mg base CX k fa fd [x] sp)(hbind:∀(s:Shared) (u:Value),BindsTo s fd ⟨[u],[]⟩ [(x,u)])
  (hsp:∀H:Hp,Od H->SqL K H a (ns.map V.int)->sp [.ref a] H (λv _=>v= .bl true) λ_ _ _=>False)
  (hCX:∀H e s',CX [] H s₁ (λ_ _ _=>False) e s'->False):
  codeAny (model P w) callerA (.call (.ref fa) ⟨[.ref a],[]⟩) (λr s'=>r= .ok (.ret (.bool true))/\OldK s₁.heap s'.heap/\s'.os=s₁.os/\AllBare s'.gens) s₁:=by
 have rv:=Em hi
 have lenV:=hi.length
 -- from an abstract heap in which nothing but the script may be tracked
 have core:∀H:Hp,Od H->SqL K H a (ns.map V.int)->HOk P w H s₁.heap->(∀b,H b≠none->b=a)->(H a≠none->K.lookup a=none)->
   codeAny (model P w) callerA (.call (.ref fa) ⟨[.ref a],[]⟩) (λr s'=>r= .ok (.ret (.bool true))/\OldK s₁.heap s'.heap/\s'.os=s₁.os/\AllBare s'.gens) s₁:=by
  intro H hO hS hok hA hK
  have base_of:∀{b:Addr}{o:Obj},s₁.heap.get? b=some o->H b=none->(ET s₁.heap H).get? b=some o:=λe n=>Dr e n
  have noA:∀{b:Addr}{o:Obj}{es:Array DictEntry}{ep:Nat},s₁.heap.get? b=some o->o.data= .dict es ep->H b=none:=fun {b o es ep} e d=>by
   cases q:H b with
   |none=>rfl
   |some u=>
    have e':b=a:=hA b (by rw[q];simp)
    subst e'
    rw[ha] at e;cases e
    have d':Data.seq vs.toArray _=Data.dict es ep:=d
    cases d'
  have nsK:∀{b:Addr}{m:Str->Option Value},s₁.heap.Ns b m->(ET s₁.heap H).Ns b m:=fun {b m} ⟨o,es,ep,e,d,r⟩=>⟨o,es,ep,base_of e (noA e d),d,r⟩
  have hKb:K.In (ET s₁.heap H):=λb o e=>base_of (KX b o e) (by
   cases q:H b with
   |none=>rfl
   |some u=>
    have e':b=a:=hA b (by rw[q];simp)
    subst e'
    rw[hK (by rw[q];simp)] at e;cases e)
  have hM:Mod K mg (ET s₁.heap H):=⟨hKb,nsK hns,⟨mb,nsK hb,hbb⟩,let ⟨mc,h1,h2⟩:=hlim;⟨mc,nsK h1,h2⟩⟩
  have e0:Env0 P w K mg (ET s₁.heap H) callerA [] s₁ H:=⟨rfl,hM,λb o e=>IY e,Nat.le_of_eq (BH _ _),trivial,λb hb=>absurd (show b∈([]:List Addr) from hb) (by simp),hok, .of_eq hg⟩
  refine codeAny_mono ((F _ hKb (nsK hns)).run callerA [] s₁ H ⟨[.ref a],[]⟩ [.ref a] [.ref a] _ _ hr e0 (hbind s₁ (.ref a)) (.cons rfl .nil) (hsp H hO hS)) λr s' h=>?_
  cases r with
  |error e=>exact(hCX H e s' h).elim
  |ok fl=>
   cases fl with
   |next=>exact False.elim h
   |brk=>exact False.elim h
   |cont=>exact False.elim h
   |ret u=>
    obtain⟨v,H',os,bare,un,hok',r',q⟩:=h
    have q':v= .bl true:=q
    subst q'
    obtain rfl:u=Value.bool true:=r'
    refine⟨rfl,OldK.of_keep λb o e=>?_,os,bare⟩
    cases q:H b with
    |none=>exact un.keep b o e q (by intro z;exact absurd (show b∈([]:List Addr) from z) (by simp)) (by simp)
    |some u=>
     rcases hO b with z | ⟨ob,xs,z⟩
     ·rw[q] at z;cases z
     ·have z2:=un.frzs b ob _ z
      obtain⟨e1,_⟩:=hok b _ z
      obtain⟨e2,_⟩:=hok' b _ z2
      rw[e] at e1;cases e1
      exact e2
 cases hk:K.lookup a with
 |some o=>
  -- the script is one of the module's own objects
  have e:=KX a o hk
  rw[ha] at e
  cases e
  refine core (λ_=>none) (λ_=>.inl rfl) (.inr ⟨_,vs.toArray,_,hk,rfl,rfl,rfl,by rw[List.size_toArray,lenV];exact hl,by simpa using rv⟩) (λb u z=>by have z':(none:Option HO)=some u:=z;cases z') (λb z=>absurd rfl z) λz=>absurd rfl z
 |none=>
  refine core (λb=>if b=a then some (.frz {cls:=.type "list",data:=.seq vs.toArray} (.lst (ns.map V.int))) else none) (λb=>?_) (.inl (.inr ⟨{cls:=.type "list",data:=.seq vs.toArray},if_pos rfl⟩)) (λb u z=>?_) (λb z=>?_) λ_=>hk
  ·by_cases hb:b=a
   ·exact .inr ⟨_,_,if_pos hb⟩
   ·exact .inl (if_neg hb)
  ·by_cases hb:b=a
   ·have z':=(if_pos hb).symm.trans z
    cases z'
    subst hb
    exact⟨ha,by rw[List.length_map];exact hl,vs,_,rv,ha⟩
   ·have z':=(if_neg hb).symm.trans z
    cases z'
  ·by_cases hb:b=a
   ·exact hb
   ·exact absurd (if_neg hb) z
theorem IM {l:PySem.W.OpenLaw}{n k:Nat}{q:Program}{loose:List Str}{XP:(Str->Option Value)->Heap->Prop}{YP:World->Heap->Prop}{d:DefRec}{K:Params->PySem.W.Frag}{CX:World->CXT}{sp:World->Sp}{x:Str}
  (hn:l.most=some n)(hn2:n<=sizeLine)(hdf:d.params.defaults=[])(hr:Room k callerA)
  (hY:∀(w:World) (h:Heap),YP w h->(K w.params).In h)
  (F:∀(w:World) (mg:Str->Option Value) (fa:Addr) (h:Heap),(K w.params).In h->h.Ns mainGlobals mg->mg d.name=some (.ref fa)->
   ∃fd:FuncData,(∀(s:Shared) (u:Value),BindsTo s fd ⟨[u],[]⟩ [(x,u)])/\
    ∀base:Heap,(K w.params).In base->base.Ns mainGlobals mg->FnOk l.prog w (K w.params) mg base (CX w) k fa fd [x] (sp w))
  (hsp:∀(w:World) (H:Hp) (a:Addr) (ns:List Int),ns.length<=n->Od H->SqL (K w.params) H a (ns.map V.int)->sp w [.ref a] H (λv _=>v= .bl true) λ_ _ _=>False)
  (hCX:∀(w:World) (H:Hp) (s:Shared) (e:Value) (s':Shared),CX w [] H s (λ_ _ _=>False) e s'->False):
  PySem.W.WalkO q loose XP YP l.row.toRowW d [] (λf vs=>PySem.call f vs):=by
 refine Att.attach_call hn hdf λw s₀ s₁ mg mb fa o pm cd doc a vs ns G Y ho hd hcd hmg hobj hints hlen hg=>?_
 have KX:=hY w _ Y
 obtain⟨fd,hb,hF⟩:=F w mg fa _ KX G.T.g hmg
 exact E1 KX G.T.g G.T.b G.T.builtins G.T.nolimit hg hobj hints (Nat.le_trans hlen hn2) hr hF hb (λH hO hS=>hsp w H a ns hlen hO hS) λH e s'=>hCX w H s₁ e s'
noncomputable def Zo (s:Stmt):Arguments:=match s with
 | .FunctionDef _ a _ _ _ _ _ _ _ _=>a
 |_=>{posonlyargs:=[],args:=[],vararg:=none,kwonlyargs:=[],kw_defaults:=[],kwarg:=none,defaults:=[]}
noncomputable def Za (s:Stmt):List Stmt:=match s with
 | .FunctionDef _ _ b _ _ _ _ _ _ _=>b
 |_=>[]
noncomputable def Xi (s:Stmt):Scope:=match s with
 | .FunctionDef _ _ _ _ _ _ sc _ _ _=>sc
 |_=>{kind:=.function,names:=[],isGenerator:=false,isCoroutine:=false}
noncomputable abbrev CX0:CXT:=λ_ _ _ _ _ _=>False
noncomputable abbrev E0:XK:=λ_ _ _=>False
theorem Oa {X:Cx}:EA CX0 X E0:=λ_ _ _ _ _ _ _ h=>h.elim
structure Fun (K:PySem.W.Frag)(x qual:Str)(st:Stmt)(f:Addr)(fd:FuncData):Prop where
 ex:∃(oc:Value) (od:Option Addr) (kV doc pm:Value) (an:Option Addr) (cdv ct:Value) (osl:Array (Option Value)),
  fd=PySem.W.fnOf x qual (Zo st) (Za st) (Xi st) .none kV doc pm an cdv ct/\K.lookup f=some ⟨oc,od, .func fd,osl⟩/\PySem.W.codeIn K cdv qual=true
 kp:PySem.W.keepIn K (.ref f)=true
section
variable {P:Program}{w:World}{K:PySem.W.Frag}{mg:Str->Option Value}{base:Heap}
theorem Fun.ok {x qual:Str}{st:Stmt}{f:Addr}{fd:FuncData}{N ps:List Str}{k:Nat}{sp:Sp}(F:Fun K x qual st f fd)(S:FnScope N ps (Xi st))(len:∀vs H Q E,sp vs H Q E->vs.length=ps.length)
  (hbody:∀(cdv:Value) (A:Around) (outer:List Env) (s:Shared) (H:Hp) (vs:List V) (Q:VK) (E:XK),Room k (A.deeper (envOfC qual (Xi st) s.heap.objs.size f cdv))->sp vs H Q E->
   ∃t,PSs (LU CX0 P w K mg base N qual (Xi st) f cdv A outer s H E).nox (Za st) t/\t {nx:=λ_ H'=>Q .non H',rt:=Q} (KC N vs) H):FnOk P w K mg base CX0 (k+1) f fd ps sp:=by
 obtain⟨oc,od,kV,doc,pm,an,cdv,ct,osl,rfl,lk,hcd⟩:=F.ex
 refine Oq lk hcd S len λA outer s H vs Q E hr hsp=>?_
 obtain⟨t,h,q⟩:=hbody cdv A outer s H vs Q E hr hsp
 exact⟨t,h.nox,q⟩
theorem Fun.binds {x qual:Str}{st:Stmt}{f:Addr}{fd:FuncData}{ps:List Str}(F:Fun K x qual st f fd)
  (h:∀(kV doc pm:Value) (an:Option Addr) (cdv ct:Value) (us:List Value),us.length=ps.length->bindArgs (PySem.W.fnOf x qual (Zo st) (Za st) (Xi st) .none kV doc pm an cdv ct) ⟨us,[]⟩=pure (ps.zip us)):G2 K fd ps []:=by
 obtain⟨oc,od,kV,doc,pm,an,cdv,ct,osl,rfl,lk,hcd⟩:=F.ex
 exact .all (h kV doc pm an cdv ct)
theorem JA {x qual:Str}{st:Stmt}{f:Addr}{oc:Value}{od an:Option Addr}{osl:Array (Option Value)}{kV doc pm cdv ct:Value}(l:K.lookup f=some ⟨oc,od, .func (PySem.W.fnOf x qual (Zo st) (Za st) (Xi st) .none kV doc pm an cdv ct),osl⟩)
  (c:PySem.W.codeIn K cdv qual=true)(k:PySem.W.keepIn K (.ref f)=true):Fun K x qual st f (PySem.W.fnOf x qual (Zo st) (Za st) (Xi st) .none kV doc pm an cdv ct):=⟨⟨oc,od,kV,doc,pm,an,cdv,ct,osl,rfl,l,c⟩,k⟩
end
theorem Yb {A:Around}{k:Nat}(hr:Room k A):A.units+1<cLine:=Nat.lt_of_le_of_lt (Nat.add_le_add_left (by decide:1<=64) _) hr.units
section
variable {X:Cx}
theorem pv (i:Nat){x:Str}{pos:Pos}(hN:X.N[i]?=some x:=by rfl)(hv:Vis X.env.scope x:=by first |exact Or.inl rfl |exact Or.inr (Or.inl rfl) |exact Or.inr (Or.inr rfl))(hd:(x==("__debug__":Str))=false:=by decide)
  (hcd:(x==("__classdict__":Str))=false:=by decide):PE X (.Name x pos) (GF i):=M9 hN hv hd hcd
end
noncomputable def Xz (H H':Hp):Prop:=∀ b o,H b=some o->H' b=some o
theorem Xz.refl (H:Hp):Xz H H:=λ_ _ h=>h
theorem Xz.trans {H H1 H2:Hp}(a:Xz H H1)(b:Xz H1 H2):Xz H H2:=λc o h=>b c o (a c o h)
theorem Xz.free {H H':Hp}(e:Xz H H'){l:Addr}(h:H' l=Option.none):H l=Option.none:=by
 cases q:H l with
 |none=>rfl
 |some o=>
  rw[e l o q] at h
  cases h
theorem Xz.seq {K:PySem.W.Frag}{H H':Hp}{a:Addr}{xs:List V}(e:Xz H H')(h:SqL K H a xs):SqL K H' a xs:=by
 rcases h with(h | ⟨o,h⟩) |h
 ·exact .inl (.inl (e _ _ h))
 ·exact .inl (.inr ⟨o,e _ _ h⟩)
 ·exact .inr h
section
variable {κ:Type}[DecidableEq κ]
noncomputable def G0 (kvs:List (κ×V))(k:κ):Option V:=(kvs.find? λkv=>decide (kv.1=k)).map (·.2)
noncomputable def VS (kvs:List (κ×V))(k:κ)(v:V):List (κ×V):=
 if(kvs.any λkv=>decide (kv.1=k))=true then kvs.map (λkv=>if kv.1=k then(kv.1,v) else kv) else kvs++[(k,v)]
noncomputable def NE (kvs:List (κ×V))(k:κ):List (κ×V):=kvs.filter λkv=>decide (kv.1≠k)
theorem VE {p:κ×V}{r:List (κ×V)}{k:κ}(e:p.1=k):G0 (p::r) k=some p.2:=by simp[G0,List.find?_cons,e]
theorem VC {p:κ×V}{r:List (κ×V)}{k:κ}(e:¬p.1=k):G0 (p::r) k=G0 r k:=by simp[G0,List.find?_cons,e]
theorem Df (k:κ):∀kvs:List (κ×V),(kvs.any λkv=>decide (kv.1=k))=(G0 kvs k).isSome
 | []=>rfl
 |p::r=>by
  rw[List.any_cons]
  by_cases e:p.1=k
  ·simp only[VE e,decide_eq_true e,Bool.true_or,Option.isSome_some]
  ·rw[VC e,decide_eq_false e,Bool.false_or];exact Df k r
theorem V1 (kvs:List (κ×V))(k:κ)(v:V):(VS kvs k v).length<=kvs.length+1:=by
 unfold VS
 split
 ·rw[List.length_map];omega
 ·rw[List.length_append,List.length_cons,List.length_nil];omega
theorem DZ.isSome_eq {o:Option V}{u:Option Value}(r:DZ o u):o.isSome=u.isSome:=by
 cases o with
 |none=>cases u with
  |none=>rfl
  |some _=>exact(show False from r).elim
 |some _=>cases u with
  |none=>exact(show False from r).elim
  |some _=>rfl
theorem DZ.getD {o:Option V}{u:Option Value}{d:V}{d':Value}(r:DZ o u)(rd:Yo d d'):Yo (o.getD d) (u.getD d'):=by
 cases o with
 |none=>cases u with
  |none=>exact rd
  |some _=>exact(show False from r).elim
 |some _=>cases u with
  |none=>exact(show False from r).elim
  |some _=>exact r
theorem KV.val {kvs:List (κ×V)}{vs:List (κ×Value)}(r:KV kvs vs)(k:κ):DZ (G0 kvs k) (valueAt vs k):=by
 unfold KV at r
 induction r with
 |nil=>exact True.intro
 | @cons p q ps qs h t ih=>
  obtain⟨h1,h2⟩:=h
  by_cases e:p.1=k
  ·have e':q.1=k:=h1.symm.trans e
   have b:valueAt (q::qs) k=some q.2:=by simp[valueAt,List.find?_cons,e']
   rw[VE e,b];exact h2
  ·have e':¬q.1=k:=λz=>e (h1.trans z)
   have b:valueAt (q::qs) k=valueAt qs k:=by simp[valueAt,List.find?_cons,e']
   rw[VC e,b];exact ih
theorem KV.any {kvs:List (κ×V)}{vs:List (κ×Value)}(r:KV kvs vs)(k:κ):(kvs.any λkv=>decide (kv.1=k))=vs.any λkv=>decide (kv.1=k):=by
 unfold KV at r
 induction r with
 |nil=>rfl
 |cons h t ih=>rw[List.any_cons,List.any_cons,ih,h.1]
theorem KV.repl {kvs:List (κ×V)}{vs:List (κ×Value)}(r:KV kvs vs)(k:κ){y:V}{u:Value}(ry:Yo y u):
  KV (kvs.map λkv=>if kv.1=k then(kv.1,y) else kv) (vs.map λkv=>if kv.1=k then(kv.1,u) else kv):=by
 unfold KV at r⊢
 induction r with
 |nil=>exact .nil
 | @cons p q ps qs h t ih=>
  rw[List.map_cons,List.map_cons]
  refine .cons ?_ ih
  obtain⟨h1,h2⟩:=h
  by_cases e:p.1=k
  ·rw[if_pos e,if_pos (h1.symm.trans e)];exact⟨h1,ry⟩
  ·rw[if_neg e,if_neg (λz=>e (h1.trans z))];exact⟨h1,h2⟩
theorem KV.put {kvs:List (κ×V)}{vs:List (κ×Value)}(r:KV kvs vs)(k:κ){y:V}{u:Value}(ry:Yo y u):KV (VS kvs k y) (stored vs k u):=by
 unfold VS stored
 rw[r.any k]
 by_cases e:(vs.any λkv=>decide (kv.1=k))=true
 ·rw[if_pos e,if_pos e];exact r.repl k ry
 ·rw[if_neg e,if_neg e];exact Paired.snoc r ⟨rfl,ry⟩
theorem KV.drop {kvs:List (κ×V)}{vs:List (κ×Value)}(r:KV kvs vs)(k:κ):KV (NE kvs k) (without vs k):=by
 unfold KV at r⊢
 unfold NE without
 induction r with
 |nil=>exact .nil
 | @cons p q ps qs h t ih=>
  obtain⟨h1,h2⟩:=h
  rw[List.filter_cons,List.filter_cons]
  by_cases e:p.1=k
  ·have a:¬decide (p.1≠k)=true:=by simp[e]
   have b:¬decide (q.1≠k)=true:=by simp[h1.symm.trans e]
   rw[if_neg a,if_neg b];exact ih
  ·have e':¬q.1=k:=λz=>e (h1.trans z)
   have a:decide (p.1≠k)=true:=by simp[e]
   have b:decide (q.1≠k)=true:=by simp[e']
   rw[if_pos a,if_pos b];exact .cons ⟨h1,h2⟩ ih
theorem KV.keys {kvs:List (κ×V)}{vs:List (κ×Value)}(r:KV kvs vs):kvs.map (·.1)=vs.map (·.1):=by
 unfold KV at r
 induction r with
 |nil=>rfl
 |cons h t ih=>rw[List.map_cons,List.map_cons,ih,h.1]
theorem KV.length {kvs:List (κ×V)}{vs:List (κ×Value)}(r:KV kvs vs):kvs.length=vs.length:=Paired.length r
end
theorem Ej {P:Program}{w:World}{k:Key}{u:Value}(r:Yo (kV k) u):(Yn P w).is k u=true:=by
 cases k with
 |inl i=>obtain⟨t,e⟩:=(show ∃t,u=Value.int i t from r);subst e;exact Fa P w i t
 |inr x=>obtain⟨t,e⟩:=(show ∃t,u=Value.str x t from r);subst e;exact GX P w x t
theorem K4 {P:Program}{w:World}:∀{ks:List Key}{us:List Value},Ys (ks.map kV) us->ItemsAre (Yn P w) ks us
 | [],_,r=>by rw[List.map_nil] at r;cases r;exact .nil
 |k::ks,_,r=>by
  rw[List.map_cons] at r
  cases r with
  |cons h t=>exact .cons (Ej h) (K4 t)
noncomputable abbrev KT (H:Hp):List (List Key×V)->List (List Key×Addr×Value)->Prop:=Paired λp q=>p.1=q.1/\H q.2.1=some (.tup (p.1.map kV))/\Yo p.2 q.2.2
theorem KT.val {H:Hp}{kvs:List (List Key×V)}{xs:List (List Key×Addr×Value)}(r:KT H kvs xs)(k:List Key):DZ (G0 kvs k) ((atKey xs k).map (·.2)):=by
 induction r with
 |nil=>exact True.intro
 | @cons p q ps qs h t ih=>
  obtain⟨h1,_,h2⟩:=h
  by_cases e:p.1=k
  ·have e':q.1=k:=h1.symm.trans e
   have b:atKey (q::qs) k=some q.2:=by simp[atKey,List.find?_cons,e']
   rw[VE e,b];exact h2
  ·have e':¬q.1=k:=λz=>e (h1.trans z)
   have b:atKey (q::qs) k=atKey qs k:=by simp[atKey,List.find?_cons,e']
   rw[VC e,b];exact ih
theorem KT.repl {H:Hp}{kvs:List (List Key×V)}{xs:List (List Key×Addr×Value)}(r:KT H kvs xs)(k:List Key){y:V}{u:Value}(ry:Yo y u):
  KT H (kvs.map λkv=>if kv.1=k then(kv.1,y) else kv) (xs.map (putAt k u)):=by
 induction r with
 |nil=>exact .nil
 | @cons p q ps qs h t ih=>
  rw[List.map_cons,List.map_cons]
  refine .cons ?_ ih
  obtain⟨h1,h2,h3⟩:=h
  unfold putAt
  by_cases e:p.1=k
  ·rw[if_pos e,if_pos (h1.symm.trans e)];exact⟨h1,h2,ry⟩
  ·rw[if_neg e,if_neg (λz=>e (h1.trans z))];exact⟨h1,h2,h3⟩
theorem KT.put {H:Hp}{kvs:List (List Key×V)}{xs:List (List Key×Addr×Value)}(r:KT H kvs xs)(k:List Key){b:Addr}{y:V}{u:Value}(hb:H b=some (.tup (k.map kV)))(ry:Yo y u):
  KT H (VS kvs k y) (storedH xs k b u):=by
 have e:(kvs.any λkv=>decide (kv.1=k))=(atKey xs k).isSome:=by
  rw[Df,(r.val k).isSome_eq,Option.isSome_map]
 unfold VS storedH
 rw[e]
 by_cases q:(atKey xs k).isSome=true
 ·rw[if_pos q,if_pos q];exact r.repl k ry
 ·rw[if_neg q,if_neg q];exact Paired.snoc r ⟨rfl,hb,ry⟩
theorem KT.keeps {H H':Hp}{kvs:List (List Key×V)}{xs:List (List Key×Addr×Value)}(r:KT H kvs xs)(ht:∀b ys,H b=some (.tup ys)->H' b=some (.tup ys)):KT H' kvs xs:=
 Paired.mapP r λ_ _ z=>⟨z.1,ht _ _ z.2.1,z.2.2⟩
section
variable {P:Program}{w:World}{H:Hp}{h:Heap}{a:Addr}
theorem Mz {u:HO}(ok:HOk P w H h)(e:Rd H a u):Y3 P w H h a u:=e.ok ok
theorem HF {kvs:List (Key×V)}(ok:HOk P w H h)(e:Rd H a (.dK kvs)):kvs.length<=sizeLine/\(a==sysModules)=false/\∃vs,KV kvs vs/\h.DictOf (Yn P w) a vs:=
 show Y3 P w H h a (.dK kvs) from Mz ok e
theorem Oj {kvs:List (Key×V)}(ok:HOk P w H h)(e:H a=some (.dK kvs)):kvs.length<=sizeLine/\(a==sysModules)=false/\∃vs,KV kvs vs/\h.DictOf (Yn P w) a vs:=HF ok (.inl e)
theorem Gp {ks:List Key}(ok:HOk P w H h)(e:H a=some (.tup (ks.map kV))):(tupleKind (Yn P w)).is h ks a:=by
 obtain⟨_,its,r,o,h1,h2,n,h3⟩:=(show Y3 P w H h a (.tup (ks.map kV)) from ok a _ e)
 exact⟨o,its.toArray,n,h1,h2.1,h3,by simpa using K4 r⟩
theorem HI {kvs:List (List Key×V)}(ok:HOk P w H h)(e:Rd H a (.dT kvs)):kvs.length<=sizeLine/\(a==sysModules)=false/\
  ∃xs,KT H kvs xs/\h.DictOfH (tupleKind (Yn P w)) a xs:=by
 obtain⟨z,y,xs,r,o,es,ep,h1,h2,h3,h4,h5⟩:=(show Y3 P w H h a (.dT kvs) from Mz ok e)
 refine⟨z,y,xs,r,o,es,ep,h1,h2,h3,h4,λx hx=>?_,h5⟩
 have all:∀{l:List (List Key×V)}{m:List (List Key×Addr×Value)},KT H l m->∀x∈m,(tupleKind (Yn P w)).is h x.1 x.2.1:=by
  intro l m q
  induction q with
  |nil=>intro x hx;exact nomatch hx
  | @cons p q ps qs hq t ih=>
   intro x hx
   rcases List.mem_cons.mp hx with e |hx
   ·subst e
    exact Gp ok (by rw[←hq.1];exact hq.2.1)
   ·exact ih x hx
 exact all r x hx
theorem Oh {kvs:List (List Key×V)}(ok:HOk P w H h)(e:H a=some (.dT kvs)):kvs.length<=sizeLine/\(a==sysModules)=false/\
  ∃xs,KT H kvs xs/\h.DictOfH (tupleKind (Yn P w)) a xs:=HI ok (.inl e)
end
noncomputable def HX (H:Hp)(a:Addr)(y:V)(r:Option V):Prop:=
 (∃kvs k,Rd H a (.dK kvs)/\y=kV k/\r=G0 kvs k)∨∃kvs k b,Rd H a (.dT kvs)/\y= .ref b/\H b=some (.tup (k.map kV))/\r=G0 kvs k
noncomputable def Mr (H:Hp)(a:Addr)(y v:V)(H':Hp):Prop:=
 (∃kvs k,H a=some (.dK kvs)/\y=kV k/\kvs.length<sizeLine/\H'=upd H a (.dK (VS kvs k v)))∨
 ∃kvs k b,H a=some (.dT kvs)/\y= .ref b/\H b=some (.tup (k.map kV))/\kvs.length<sizeLine/\H'=upd H a (.dT (VS kvs k v))
theorem HX.k {H:Hp}{a:Addr}{kvs:List (Key×V)}{k:Key}(e:H a=some (.dK kvs)):HX H a (kV k) (G0 kvs k):=.inl ⟨kvs,k, .inl e,rfl,rfl⟩
theorem HX.t {H:Hp}{a b:Addr}{kvs:List (List Key×V)}{k:List Key}(e:H a=some (.dT kvs))(eb:H b=some (.tup (k.map kV))):HX H a (.ref b) (G0 kvs k):=.inr ⟨kvs,k,b, .inl e,rfl,eb,rfl⟩
theorem Mr.k {H:Hp}{a:Addr}{kvs:List (Key×V)}{k:Key}{v:V}(e:H a=some (.dK kvs))(hl:kvs.length<sizeLine):Mr H a (kV k) v (upd H a (.dK (VS kvs k v))):=.inl ⟨kvs,k,e,rfl,hl,rfl⟩
theorem Mr.t {H:Hp}{a b:Addr}{kvs:List (List Key×V)}{k:List Key}{v:V}(e:H a=some (.dT kvs))(eb:H b=some (.tup (k.map kV)))(hl:kvs.length<sizeLine):
  Mr H a (.ref b) v (upd H a (.dT (VS kvs k v))):=.inr ⟨kvs,k,b,e,rfl,eb,hl,rfl⟩
section
variable {X:Cx}{pins:List (Addr×Obj)}{σ:St}{H:Hp}{s:Shared}{a:Addr}{y v:V}{u r:Value}{o:Option V}{A:Around}{E:Value->Shared->Prop}
theorem Inv.big (I:Inv X pins σ H s):sysModules<s.heap.objs.size:=by
 have h:mainGlobals<s.heap.objs.size:=(I.mod.glob.keeps I.bk).lt
 exact Nat.lt_trans (by decide) h
theorem Bq {Q:Value->Shared->Prop}(hu:A.units+1<cLine)(I:Inv X pins σ H s)(g:HX H a y (some v))(ry:Yo y u)(h:∀w' s',Inv X pins σ H s'->Yo v w'->Q w' s'):
  wpAny (model X.prog X.w) A (getItem (.ref a) u) Q E s:=by
 rcases g with⟨kvs,k,e,ey,l⟩ | ⟨kvs,k,b,e,ey,eb,l⟩
 ·subst ey
  obtain⟨z,hd,vs,rel,dd⟩:=HF I.hok e
  obtain⟨w',hw,rw'⟩:=DZ.some_of (v:=v) (o:=valueAt vs k) (by rw[l];exact rel.val k)
  exact wpAny_getItem_of (Ej ry) dd.mapOf hw (h w' _ (I.tok _) rw')
 ·subst ey
  cases(show u=Value.ref b from ry)
  obtain⟨z,hd,xs,rel,dd⟩:=HI I.hok e
  obtain⟨w',hw,rw'⟩:=DZ.some_of (v:=v) (o:=(atKey xs k).map (·.2)) (by rw[l];exact rel.val k)
  obtain⟨p,hp,hp2⟩:=Option.map_eq_some_iff.mp hw
  refine wpAny_getItem_heap (tupleKind_room_in1 hu) (Gp I.hok eb) dd hp ?_
  rw[hp2]
  exact h w' _ (I.tok _) rw'
theorem Ld {Q:Value->Shared->Prop}(hu:A.units+1<cLine)(I:Inv X pins σ H s)(g:HX H a y o)(ry:Yo y u)(h:∀s',Inv X pins σ H s'->Q (.bool (!o.isSome)) s'):
  wpAny (model X.prog X.w) A (compareOp .NotIn u (.ref a)) Q E s:=by
 rcases g with⟨kvs,k,e,ey,l⟩ | ⟨kvs,k,b,e,ey,eb,l⟩
 ·subst ey
  obtain⟨z,hd,vs,rel,dd⟩:=HF I.hok e
  refine wpAny_notIn_of (Ej ry) hd dd.mapOf ?_
  rw[←(rel.val k).isSome_eq, ←l]
  exact h _ (I.tok _)
 ·subst ey
  cases(show u=Value.ref b from ry)
  obtain⟨z,hd,xs,rel,dd⟩:=HI I.hok e
  refine wpAny_notIn_heap (tupleKind_room_in1 hu) (Gp I.hok eb) hd dd ?_
  have q:=(rel.val k).isSome_eq
  rw[Option.isSome_map] at q
  rw[←q, ←l]
  exact h _ (I.tok _)
theorem C0 {h':Heap}{t':Nat}{ob:HO}(I:Inv X pins σ H s)(mu:Mut (H a))(hs:Heap.SameBut a s.heap h')(he:∃q,h'.get? a=some q)(new:Y3 X.prog X.w (upd H a ob) h' a ob):
  Inv X pins σ (upd H a ob) {s with heap:=h',toks:=t'}:=
 I.write (x:=a) (e:=a) mu (.inl rfl) (λb q hb z=>(hs.2 b hb).trans z) he new
theorem NT {P:Program}{w:World}{H':Hp}{h':Heap}{kvs:List (Key×V)}{vs:List (Key×Value)}(z:kvs.length<=sizeLine)(hd:(a==sysModules)=false)(rel:KV kvs vs)(dd:h'.DictOf (Yn P w) a vs):
  Y3 P w H' h' a (.dK kvs):=⟨z,hd,vs,rel,dd⟩
theorem B2 {H':Hp}{Q:Unit->Shared->Prop}(hu:A.units+1<cLine)(I:Inv X pins σ H s)(g:Mr H a y v H')(ry:Yo y u)(rv:Yo v r)(h:∀s',Inv X pins σ H' s'->Q () s'):
  wpAny (model X.prog X.w) A (setItem (.ref a) u r) Q E s:=by
 rcases g with⟨kvs,k,e,ey,l,eH⟩ | ⟨kvs,k,b,e,ey,eb,l,eH⟩
 ·subst ey eH
  obtain⟨z,hd,vs,rel,dd⟩:=Oj I.hok e
  have hz:vs.length<=sizeLine:=by rw[←rel.length];exact z
  have hl:(VS kvs k v).length<=sizeLine:=by have:=V1 kvs k v;omega
  refine wpAny_setItem_pairs (hsz:=hz) (Ej ry) dd λh' dd' hs=>h _ ?_
  have he:∃q,h'.get? a=some q:=let ⟨q,_,_,hq,_⟩:=dd';⟨q,hq⟩
  exact C0 I (by rw[e];exact True.intro) hs he (NT hl hd (rel.put k rv) dd')
 ·subst ey eH
  cases(show u=Value.ref b from ry)
  obtain⟨z,hd,xs,rel,dd⟩:=Oh I.hok e
  have hz:xs.length<=sizeLine:=by rw[←Paired.length rel];exact z
  have hl:(VS kvs k v).length<=sizeLine:=by have:=V1 kvs k v;omega
  refine wpAny_setItem_heap (hsz:=hz) (tupleKind_room_in1 hu) (Gp I.hok eb) dd λh' dd' hs=>h _ ?_
  obtain⟨q,es,ep,hq,h2,h3,h4,_,h5⟩:=dd'
  refine C0 I (by rw[e];exact True.intro) hs ⟨q,hq⟩ ⟨hl,hd,_,(rel.put k eb rv).keeps λc ys ec=>?_,q,es,ep,hq,h2,h3,h4,h5⟩
  rw[XA (B1 ec e (λz=>nomatch z))]
  exact ec
end
section
variable {X:Cx}{pins:List (Addr×Obj)}{σ:St}{H:Hp}{s:Shared}{a:Addr}{kvs:List (Key×V)}{k:Key}{u:Value}{A:Around}{E:Value->Shared->Prop}
end
noncomputable def OP (i:Expr):Prop:=∀ ov iv,subscripted i false ov iv=operate [ov,iv] (getItem ov iv)
theorem L9 {prog:Program}{w:World}{A:Around}{E:Value->Shared->Prop}{s:Shared}{env:Env}{value slice:Expr}{pos:Pos}{T id:String}{Q:Value->Shared->Prop}
  (hl:typeLookup (.type T) "__getitem__" =pure (some (.builtin id)))(hs:OP slice)
  (h:wpAny (model prog w) A (eval value env) (λo s₁=>wpAny (model prog w) A (eval slice env) (λi s₂=>s₂.TypeIs o T/\wpAny (model prog w) A (getItem o i) Q E s₂) E s₁) E s):
  wpAny (model prog w) A (eval (.Subscript value slice pos) env) Q E s:=by
 refine Subscript_ (wpAny_mono h (λo s₁ h₁=>wpAny_mono h₁ (λi s₂ h₂=>?_) λ_ _ x=>x) λ_ _ x=>x)
 obtain⟨hT,h₂⟩:=h₂
 unfold subscriptTail
 refine wpAny_bind ?_
 rw[getitemInPython_of_ne hT.not_modules]
 refine wpAny_bind (wpAny_specialOf hT hl ?_)
 have fin:wpAny (model prog w) A (subscripted slice false o i) (λr s₃=>wpAny (model prog w) A (letTemporaryGo value o r >>= λ_=>pure r) Q E s₃) E s₂:=by
  rw[hs o i]
  exact wpAny_operating (wpAny_mono h₂ (λr s₃ h₃=>wpAny_bind (wpAny_letTemporaryGo (wpAny_pure h₃))) λ_ _ x=>x)
 first
  |exact wpAny_pure (wpAny_bind fin)
  |exact wpAny_bind (wpAny_pure (wpAny_bind fin))
  |exact wpAny_bind fin
theorem G5 {X:Cx}{pins:List (Addr×Obj)}{σ:St}{H:Hp}{s:Shared}{a:Addr}{y:V}{o:Option V}(I:Inv X pins σ H s)(g:HX H a y o):s.TypeIs (.ref a) "dict":=by
 rcases g with⟨kvs,k,e,_,_⟩ | ⟨kvs,k,b,e,_,_,_⟩
 ·obtain⟨_,_,vs,_,dd⟩:=HF I.hok e
  exact dd.typeIs
 ·obtain⟨_,_,xs,_,dd⟩:=HI I.hok e
  exact dd.typeIs
noncomputable def NM (td ty:TE):TE:=λσ H Q=>td σ H λx H1=>ty σ H1 λy H2=>∃ a v,x= .ref a/\HX H2 a y (some v)/\Q v H2
noncomputable def Ee (ty td:TE):TE:=λσ H Q=>ty σ H λy H1=>td σ H1 λx H2=>∃ a o,x= .ref a/\HX H2 a y o/\Q (.bl (!o.isSome)) H2
noncomputable def MS (td ty tv:TE):TS:=λD σ H=>tv σ H λv H1=>td σ H1 λx H2=>ty σ H2 λy H3=>∃ a H4,x= .ref a/\Mr H3 a y v H4/\D.nx σ H4
section
variable {X:Cx}{o i e value:Expr}{pos pos' tpos:Pos}{td ty tv:TE}
theorem Fc (hu:X.A.units+1<cLine)(ho:PE X o td)(hi:PE X i ty)(hs:OP i):PE X (.Subscript o i pos) (NM td ty):=by
 intro pins s σ H Q I h
 refine L9 PySem.F.slot_dict_getitem.lookup hs (thn (ho pins s σ H _ I h) λu s1 ⟨x,H1,I1,rx,q1⟩=>thn (hi pins s1 σ H1 _ I1 q1) λiv s2 r9=>?_)
 obtain⟨y,H2,I2,ry,a,v,ex,g,q2⟩:=r9
 subst ex
 obtain rfl:u=Value.ref a:=rx
 exact⟨G5 I2 g,Bq hu I2 g ry λw' s3 I3 rw'=>⟨v,H2,I3,rw',q2⟩⟩
theorem CC (hu:X.A.units+1<cLine)(hi:PE X i ty)(ho:PE X o td):PC X .NotIn i o (Ee ty td):=by
 intro pins s σ H Q I h
 refine thn (hi pins s σ H _ I h) λiv s1 ⟨y,H1,I1,ry,q1⟩=>thn (ho pins s1 σ H1 _ I1 q1) λu s2 r9=>?_
 obtain⟨x,H2,I2,rx,a,ov,ex,g,q2⟩:=r9
 subst ex
 obtain rfl:u=Value.ref a:=rx
 exact Ld hu I2 g ry λs3 I3=>⟨.bl (!ov.isSome),H2,I3,rfl,q2⟩
theorem IX (hu:X.A.units+1<cLine)(ho:PE X o td)(hi:PE X i ty)(hv:PE X value tv)(hs:swapsWith value (some (.Subscript o i pos')) pos.line X.env=pure false):
  PS X (.Assign [.Subscript o i pos'] value pos) (MS td ty tv):=by
 intro pins s σ H D I h
 refine wpAny_Assign_Subscript (thn (hv pins s σ H _ I h) λr s1 ⟨v,H1,I1,rv,q1⟩=>thn (ho pins s1 σ H1 _ I1 q1) λu s2 ⟨x,H2,I2,rx,q2⟩=>thn (hi pins s2 σ H2 _ I2 q2) λiv s3 r9=>?_) hs
 obtain⟨y,H3,I3,ry,a,H4,ex,g,q3⟩:=r9
 subst ex
 obtain rfl:u=Value.ref a:=rx
 exact B2 hu I3 g ry rv λs4 I4=>⟨σ,H4,I4,q3⟩
end
theorem HD {P:Program}{w:World}{H:Hp}(h:Heap)(hb:sysModules<h.objs.size):Y3 P w H (h.push {cls:=.type "dict",data:=.dict #[]}) h.objs.size (.dK []):=
 ⟨Nat.zero_le _,beq_eq_false_iff_ne.mpr (Ne.symm (Nat.ne_of_lt hb)),[], .nil,Heap.DictOf.new h⟩
noncomputable def Ip:TE:=λ_ H Q=>∀ p,H p=none->Q (.ref p) (upd H p (.dK []))
section
variable {X:Cx}{pos:Pos}
theorem Hz:PE X (.Dict [] [] pos) Ip:=λpins s σ H Q I h=>
 wpAny_Dict_empty ⟨.ref s.heap.objs.size,_,I.laid (a:=s.heap.objs.size) (o:=.dK []) (t':=s.toks) (λ_ _ q=>Heap.get?_push_of_some _ q) (Nat.le_refl _) (HD s.heap I.big),rfl,h _ (I.hok.fresh (Nat.le_refl _))⟩
end
section
variable {X:Cx}{pins:List (Addr×Obj)}{σ:St}{H:Hp}{s:Shared}{a:Addr}{y d:V}{u r:Value}{o:Option V}{A:Around}{E:Value->Shared->Prop}
end
section
variable {X:Cx}{o e f:Expr}{apos cpos:Pos}{td ty tx:TE}
end
section
variable {X:Cx}{pins:List (Addr×Obj)}{σ:St}{H:Hp}{s:Shared}{a:Addr}{kvs:List (Key×V)}{A:Around}{E:Value->Shared->Prop}
end
section
variable {X:Cx}{pins:List (Addr×Obj)}{σ:St}{H:Hp}{s:Shared}{a:Addr}{y:V}{u:Value}{A:Around}{E:Value->Shared->Prop}
end
section
variable {X:Cx}
end
section
variable {κ:Type}[DecidableEq κ]
end
theorem Bx {env:Env}:∀(names:List (Str×NameKind)),(∀x∈names,x.2=NameKind.free->∃c,env.cells.lookup x.1=some c)->
  ∀cs:List (Str×Addr),(∀x c,cs.lookup x=some c->env.cells.lookup x=some c)->
  ∃cl:List (Str×Addr),(forIn names cs (λ(x:Str×NameKind) (r:List (Str×Addr))=>(if(x.2==NameKind.free)=true then do let a ←cellOf env x.1;pure (ForInStep.yield ((x.1,a)::r)) else pure (ForInStep.yield r):Sem (ForInStep (List (Str×Addr))))))=(pure cl:Sem (List (Str×Addr)))/\
   (∀x c,cl.lookup x=some c->env.cells.lookup x=some c)/\(∀x,((x,NameKind.free)∈names∨∃c,cs.lookup x=some c)->∃c,cl.lookup x=some c)
 | [],_,cs,hs=>⟨cs,by rw[List.forIn_nil],hs,λx h=>h.elim (λz=>nomatch z) id⟩
 | (n,k)::r,hf,cs,hs=>by
  have hr:∀x∈r,x.2=NameKind.free->∃c,env.cells.lookup x.1=some c:=λx hx=>hf x (List.mem_cons_of_mem _ hx)
  by_cases hk:k=NameKind.free
  ·subst hk
   obtain⟨a,ha⟩:=hf (n,NameKind.free) List.mem_cons_self rfl
   have hs':∀x c,((n,a)::cs).lookup x=some c->env.cells.lookup x=some c:=λx c h=>by
    rw[List.lookup_cons] at h
    by_cases hx:x=n
    ·subst hx
     simp only[beq_self_eq_true] at h
     rw[←h];exact ha
    ·have:(x==n)=false:=beq_eq_false_iff_ne.mpr hx
     rw[this] at h
     exact hs x c h
   obtain⟨cl,e,h1,h2⟩:=Bx r hr ((n,a)::cs) hs'
   refine⟨cl,?_,h1,λx h=>h2 x ?_⟩
   ·rw[List.forIn_cons]
    have e1:cellOf env n=pure a:=by unfold cellOf;rw[show env.cells.lookup n=some a from ha]
    simp only[beq_self_eq_true,if_true,e1]
    exact e
   ·rcases h with h | ⟨c,h⟩
    ·rcases List.mem_cons.mp h with h |h
     ·have:x=n:=congrArg Prod.fst h
      subst this
      exact .inr ⟨a,by rw[List.lookup_cons];simp⟩
     ·exact .inl h
    ·by_cases hx:x=n
     ·subst hx;exact .inr ⟨a,by rw[List.lookup_cons];simp⟩
     ·exact .inr ⟨c,by rw[List.lookup_cons,beq_eq_false_iff_ne.mpr hx];exact h⟩
  ·obtain⟨cl,e,h1,h2⟩:=Bx r hr cs hs
   refine⟨cl,?_,h1,λx h=>h2 x ?_⟩
   ·rw[List.forIn_cons]
    have hb:(k==NameKind.free)=false:=by simpa using hk
    simp only[hb,Bool.false_eq_true,if_false]
    exact e
   ·rcases h with h |h
    ·rcases List.mem_cons.mp h with h |h
     ·exact absurd (congrArg Prod.snd h).symm hk
     ·exact .inl h
    ·exact .inr h
theorem Fh {scope:Scope}{env:Env}(hf:∀x∈scope.names,x.2=NameKind.free->∃c,env.cells.lookup x.1=some c):
  ∃cl:List (Str×Addr),closureFor scope env=pure cl/\(∀x c,cl.lookup x=some c->env.cells.lookup x=some c)/\(∀x,(x,NameKind.free)∈scope.names->∃c,cl.lookup x=some c):=by
 obtain⟨cl,e,h1,h2⟩:=Bx scope.names hf [] (λx c h=>by simp at h)
 refine⟨cl,?_,h1,λx h=>h2 x (.inl h)⟩
 unfold closureFor
 show((forIn scope.names [] (λ(x:Str×NameKind) (r:List (Str×Addr))=>(if(x.2==NameKind.free)=true then do let a ←cellOf env x.1;pure (ForInStep.yield ((x.1,a)::r)) else pure (ForInStep.yield r):Sem (ForInStep (List (Str×Addr)))))) >>= λs=>pure s)=pure cl
 rw[e]
 rfl
theorem Jg {env:Env}:∀{names:List (Str×NameKind)}{x:Str}{k:NameKind},(∀y∈names,y.2≠NameKind.cell)->
  (names.map λ(n,k)=>if(k==NameKind.free&&env.scope.kind== .function&&env.kindOf n==some .cell) then(n,NameKind.cell) else(n,k)).lookup x=some k->(k= .cell∨k= .free)->(x,NameKind.free)∈names
 | [],_,_,_,h,_=>by simp at h
 | (n,kk)::r,x,k,hc,h,hk=>by
  have ih:=@Jg env r x k (λy hy=>hc y (List.mem_cons_of_mem _ hy))
  have hh:=hc (n,kk) List.mem_cons_self
  simp only[List.map_cons] at h
  by_cases hcond:(kk==NameKind.free&&env.scope.kind== .function&&env.kindOf n==some .cell)=true
  ·rw[if_pos hcond,List.lookup_cons] at h
   have hfree:kk=NameKind.free:=by
    rw[Bool.and_eq_true,Bool.and_eq_true] at hcond
    simpa using hcond.1.1
   cases hx:x==n with
   |true=>
    have:x=n:=by simpa using hx
    subst this;subst hfree
    exact List.mem_cons_self
   |false=>rw[hx] at h;exact List.mem_cons_of_mem _ (ih h hk)
  ·rw[if_neg hcond,List.lookup_cons] at h
   cases hx:x==n with
   |true=>
    rw[hx] at h
    have hkk:kk=k:=Option.some.inj h
    have:x=n:=by simpa using hx
    subst this;subst hkk
    rcases hk with z |z
    ·exact absurd z hh
    ·subst z;exact List.mem_cons_self
   |false=>rw[hx] at h;exact List.mem_cons_of_mem _ (ih h hk)
theorem QF {env:Env}:∀{names:List (Str×NameKind)}{x:Str},names.lookup x=some .free->
  let l:=(names.map λ(n,k)=>if(k==NameKind.free&&env.scope.kind== .function&&env.kindOf n==some .cell) then(n,NameKind.cell) else(n,k))
  l.lookup x=some .cell∨l.lookup x=some .free
 | [],_,h=>by simp at h
 | (n,kk)::r,x,h=>by
  have ih:=@QF env r x
  simp only[List.map_cons]
  rw[List.lookup_cons] at h
  by_cases hcond:(kk==NameKind.free&&env.scope.kind== .function&&env.kindOf n==some .cell)=true
  ·rw[if_pos hcond,List.lookup_cons]
   cases hx:x==n with
   |true=>exact .inl rfl
   |false=>rw[hx] at h;exact ih h
  ·rw[if_neg hcond,List.lookup_cons]
   cases hx:x==n with
   |true=>rw[hx] at h;exact .inr h
   |false=>rw[hx] at h;exact ih h
noncomputable abbrev Cx.comp (X:Cx)(N:List Str)(scope:Scope)(cl:List (Str×Addr))(C:Addr)(s:Shared)(H:Hp)(ex:List Addr)(E:Value->Shared->Prop):Cx:=
 {X with N:=N,s₀:=s,H₀:=H,env:=compEnvC scope cl C X.env,outer:=X.stack,ex:=ex,fn:=λ_=>false,pn:=[],xe:=E}
noncomputable def PTs (X:Cx)(ifs:List Expr)(t:TT):Prop:=
 ∀(pins:List (Addr×Obj)) (s:Shared) (σ:St) (H:Hp) (Q:Bool->Hp->Prop),Inv X pins σ H s->t σ H Q->
  wpAny (model X.prog X.w) X.A (forIn ifs true λc r=>if r=true then do let ok ←isTrue c X.env (eval c X.env);pure (ForInStep.yield ok) else pure (ForInStep.yield r)) (TP X pins σ Q) X.xe s
noncomputable def Kq:TT:=λ_ H Q=>Q true H
theorem NP {σ:St}{H:Hp}{A B:Hp->Prop}(h:A H):Kq σ H λc H5=>if c=true then A H5 else B H5:=by
 show if true=true then A H else B H
 rw[if_pos rfl]
 exact h
theorem YD {X:Cx}:PTs X [] Kq:=λ_ _ _ H _ I h=>wpAny_tests_nil ⟨H,I,h⟩
theorem JU {X:Cx}{c:Expr}{t:TT}(h:PT X c t):PTs X [c] t:=λpins s σ H Q I hw=>wpAny_tests_one (h pins s σ H Q I hw)
noncomputable def JS (n:Nat)(g:TG):Prop:=∀ x σ H Q,g x σ H Q->g x σ H λσ2 H2=>Q σ2 H2/\σ2.length=σ.length/\∀i,n<=i->σ2[i]?=σ[i]?
theorem YL {n i:Nat}(h:i<n):JS n (ZB i):=λx σ H Q q=>⟨q,by simp,λj hj=>by rw[List.getElem?_set_ne (by lia)]⟩
theorem JQ {K:PySem.W.Frag}{n i j:Nat}(hi:i<n)(hj:j<n):JS n (Ie K 2 (Qz (ZB i) (Qz (ZB j) IV))):=λx σ H Q q=>by
 obtain⟨a,xs,e1,hq,hl,v,r,e2,w,r2,e3,e4,q⟩:=q
 exact⟨a,xs,e1,hq,hl,v,r,e2,w,r2,e3,e4,q,by simp,λk hk=>by rw[List.getElem?_set_ne (by lia),List.getElem?_set_ne (by lia)]⟩
noncomputable def ZA (n:Nat)(caps:List (Nat×Str))(σ:St):St:=List.replicate n none++caps.map λp=>(σ[p.1]?).join
noncomputable def Hd (g:TG)(tt:TT)(te:TE)(σ:St)(Q:VK)(J:It)(W:Nat->Nat->List V->Hp->Prop):Prop:=
 ∀i m ys H2,W i m ys H2->ys.length<=sizeLine/\
  ((J.stop i H2/\∀p,H2 p=none->Q (.ref p) (upd H2 p (.lst ys)))∨
  (J.go i H2/\∃N:List V->Hp->Prop,(∀ys' H',N ys' H'->∃m',m'<m/\W (i+1) m' ys' H')/\∀x H3,J.yld i H2 x H3->g x σ H3 λσ4 H4=>tt σ4 H4 λc H5=>
   if c=true then te σ4 H5 λv H6=>N (ys++[v]) H6 else N ys H5))
noncomputable def Ic (n:Nat)(caps:List (Nat×Str))(g:TG)(tt:TT)(te:TE)(σ:St)(Q:VK)(J:It)(H1:Hp):Prop:=
 ∃W:Nat->Nat->List V->Hp->Prop,(∃m,W 0 m [] H1)/\Hd g tt te (ZA n caps σ) Q J W
noncomputable def Fk (n:Nat)(caps:List (Nat×Str))(wi:TI)(g:TG)(tt:TT)(te:TE):TE:=λσ H Q=>wi σ H λJ H1=>Ic n caps g tt te σ Q J H1
noncomputable def K0 (sc scope:Scope)(N0 tns:List Str)(caps:List (Nat×Str)):Bool:=
 scope.kind== .function&&scope.names.all (λy=>!(y.2== .cell))&&scope.names.all (λy=>!(y.2== .local) || scope.names.lookup y.1==some .local)&&
 scope.names.all (λy=>!(y.2== .free) || sc.names.lookup y.1==some .cell)&&caps.all (λp=>N0[p.1]?==some p.2&&sc.names.lookup p.2==some .cell&&scope.names.lookup p.2==some .free)
theorem Gq {α:Type}{p:α}{P:Prop}(h:p∈([]:List α)):P:=nomatch h
noncomputable def MR (M:Model)(A:Around)(elt tg:Expr)(ifs:List Expr)(acc:Value)(env:Env)(E:Value->Shared->Prop)(K:Shared->Prop)(v:Value)(s:Shared):Prop:=
 wpAny M A (assign tg env v) (λ_ s₂=>wpAny M A (forIn ifs true λc r=>if r=true then do let ok ←isTrue c env (eval c env);pure (ForInStep.yield ok) else pure (ForInStep.yield r)) (λok s₃=>
  if ok=true then wpAny M A (eval elt env) (λx s₄=>wpAny M A (call (.builtin "list.append") [acc,x]) (λ_ s₅=>K s₅) E s₄) E s₃ else K s₃) E s₂) E s
noncomputable def Ow (M:Model)(A:Around)(elt tg:Expr)(ifs:List Expr)(it acc:Value)(env:Env)(E:Value->Shared->Prop)(Rn K:Shared->Prop)(s:Shared):Prop:=
 wpAny M A (pyNext it) (λr s₁=>r=none/\Rn s₁∨∃v,r=some v/\wpAny M A (letOwnedTupleGo tg it v) (λ_ s₁=>MR M A elt tg ifs acc env E K v s₁) E s₁) E s
section
variable {prog:Program}{w:World}{A:Around}{R:Result->Shared->Prop}{s:Shared}
theorem Gy {elt target iter:Expr}{ifs:List Expr}{scope:Scope}{pos:Pos}{it acc:Value}{env:Env}{E:Value->Shared->Prop}(I:Nat->Shared->Prop)(hE:(notedBy (model prog w) A env λe s'=>R (.error e) s')=E)
  (turn:∀n s,I n s->Ow (model prog w) A elt target ifs it acc env E (λs=>R (.ok .next) s) (λs=>∃ m,m<n/\I m s) s)(n:Nat)(h:I n s):
  codeAny (model prog w) A (.compLoop (.ListComp elt [⟨target,iter,ifs,0⟩] scope pos) 0 it acc env) R s:=by
 subst hE
 refine codeAny_loop rfl I (λn s hI=>?_) n h
 show wpAny _ A ((compTurn (.ListComp elt [⟨target,iter,ifs,0⟩] scope pos) 0 it acc env).onRaise (λx=>do noteFrame x env;theTreesLotGoes x)) _ _ s
 refine wpAny_noted ?_
 rw[compTurn_list]
 refine wpAny_bind (wpAny_standAt (wpAny_bind (thn (turn n s hI) λr s₁ h₁=>?_)))
 rcases h₁ with⟨rfl,h₁⟩ | ⟨v,rfl,h₁⟩
 ·exact wpAny_pure h₁
 ·refine wpAny_bind (thn h₁ λ_ s₁' h₁'=>wpAny_bind (thn h₁' λ_ s₂ h₂=>wpAny_bind (thn h₂ λok s₃ h₃=>?_)))
  cases ok with
  |false=>exact wpAny_pure ⟨rfl,h₃⟩
  |true=>exact wpAny_bind (wpAny_bind (thn h₃ λx s₄ h₄=>wpAny_bind (thn h₄ λ_ s₅ h₅=>wpAny_pure (wpAny_pure ⟨rfl,h₅⟩))))
end
noncomputable def lob (its:List Value)(k:Nat):Obj:={cls:=.type "list",data:=.seq (List.toArray its) k}
structure CIn (Y:Cx)(tn:Nat->Heap->Prop)(fp:List Addr)(D:Addr)(σ:St)(i:Nat)(H:Hp)(o:Obj)(s:Shared):Prop where
 I:Inv Y [] σ H s
 t:tn i s.heap
 f:∀b∈fp,H b=none
 l:s.heap.get? D=some o
 n:H D=none
inductive CI (Y:Cx)(tn:Nat->Heap->Prop)(fp:List Addr)(D:Addr)(σ:St)(W:Nat->Nat->List V->Hp->Prop)(m:Nat)(s:Shared):Prop
 |mk (i:Nat) (H:Hp) (ys:List V) (its:List Value) (k:Nat) (c:CIn Y tn fp D σ i H (lob its k) s) (r:Ys ys its) (w:W i m ys H)
structure CAt (Y:Cx)(fp:List Addr)(D:Addr):Prop where
 calm:Y.calm=true
 pn:Y.pn=[]
 ne:D≠Y.env.locals
 fs:D∉Y.fs
 sz:Y.s₀.heap.objs.size<=D
 cl:∀x c,Y.env.cells.lookup x=some c->c≠D
 fpn:∀b∈fp,b≠D
 ok:∀b∈fp,∀H:Hp,H b=none->GE Y [] H b
section
variable {Y:Cx}{tn:Nat->Heap->Prop}{fp:List Addr}{D it:Addr}{σ:St}{tg elt iter:Expr}{ifs:List Expr}{J:It}{g:TG}{tt:TT}{te:TE}{n i:Nat}{H:Hp}{s:Shared}{o:Obj}{Kn:Shared->Prop}
theorem CAt.pins (c:CAt Y fp D)(hn:∀b∈fp,H b=none):∀b∈fp,GE Y [(D,o)] H b:=λb hb=>
 have z:=c.ok b hb H (hn b hb)
 ⟨z.1,z.2.1,z.2.2.1,z.2.2.2.1,z.2.2.2.2.1,λp hp e=>by
  rw[c.pn] at hp
  cases List.mem_singleton.mp hp
  exact c.fpn b hb e.symm⟩
theorem FU (T:Turn Y.prog Y.w Y.K tg J fp it tn){h5:Heap}(t:tn i h5)(I:Inv Y ([(D,o)]++KQ fp h5) σ H s):CIn Y tn fp D σ i H o s:=
 have p:=I.pin (D,o) (List.mem_append_right _ (.head _))
 have q:∀b∈fp,∀o',h5.get? b=some o'->s.heap.get? b=some o'/\H b=none:=λb hb o' e=>have z:=I.pin (b,o') (List.mem_append_right _ (.tail _ (J9 hb e)));⟨z.1,z.2.1⟩
 ⟨I.pins_of (pins':=[]) λ_ h=>Gq h,T.keep _ _ _ t λb hb o' e=>(q b hb o' e).1,λb hb=>(T.obj _ _ t b hb).elim λo' e=>(q b hb o' e.1).2,p.1,p.2.1⟩
theorem O1 (T:Turn Y.prog Y.w Y.K tg J fp it tn)(a:CAt Y fp D){its:List Value}{k:Nat}{v:Value}{E:Value->Shared->Prop}(c:CIn Y tn fp D σ i H (lob its k) s)(hz:its.length<=sizeLine)
  (hQ:∀k' s',CIn Y tn fp D σ i H (lob (its++[v]) k') s'->Kn s'):wpAny (model Y.prog Y.w) Y.A (call (.builtin "list.append") [.ref D,v]) (λ_ s=>Kn s) E s:=by
 refine call_meets F.slot_list_append ⟨_,c.l,rfl⟩ F.entry_list_append (F.args_list_append_2 _ _) (PySem.list_append D (List.toArray its) k v hz) ⟨c.l,?_⟩
 have q:∃k',PySem.IsL (s.heap.update D (Obj.mapSeq (·.push v))) D ((List.toArray its).push v) k':=⟨_,PySem.IsL.update c.l (·.push v)⟩
 rw[List.push_toArray] at q
 obtain⟨k',q⟩:=q
 exact hQ k' _ ⟨c.I.turned (t':=s.toks) (h':=s.heap.update D (Obj.mapSeq (·.push v))) (it:=D) (λb o hb' e=>(Heap.get?_update_other s.heap _ (Ne.symm hb')).trans e) c.n a.ne (.inr a.sz) a.cl (λp hp=>by rw[a.pn] at hp;exact Gq hp),
  T.keep _ _ _ c.t λb hb o e=>(Heap.get?_update_other s.heap _ (Ne.symm (a.fpn b hb))).trans e,c.f,q,c.n⟩
theorem E9 {acc:Value}{pins:List (Addr×Obj)}{N:List V->Hp->Prop}{ys:List V}{x:V}{u:Value}(hg:PG Y tg g)(ht:PTs Y ifs tt)(he:PE Y elt te)(hG:JS n g)(h0:∀(j:Nat) v,σ[j]?=some (some v)->n<=j)
  (I:Inv Y pins σ H s)(r:Yo x u)(st:g x σ H λσ4 H4=>tt σ4 H4 λc H5=>if c=true then te σ4 H5 λv H6=>N (ys++[v]) H6 else N ys H5)
  (hF:∀H7 s7,Inv Y pins σ H7 s7->N ys H7->Kn s7)(hT:∀H8 s8 y v,Inv Y pins σ H8 s8->Yo y v->N (ys++[y]) H8->wpAny (model Y.prog Y.w) Y.A (call (.builtin "list.append") [acc,v]) (λ_ s=>Kn s) Y.xe s8):
  MR (model Y.prog Y.w) Y.A elt tg ifs acc Y.env Y.xe Kn u s:=by
 refine thn (hg _ s _ H x u _ I r (hG _ _ _ _ st)) λ_ s6 r9=>?_
 obtain⟨σ6,H6,I6,q6,l6,k6⟩:=r9
 have wk:∀(j:Nat) v,σ[j]?=some (some v)->σ6[j]?=some (some v):=λj v e=>(k6 j (h0 j v e)).trans e
 refine thn (ht _ s6 σ6 H6 _ I6 q6) λc s7 r9=>?_
 obtain⟨H7,I7,q7⟩:=r9
 cases c with
 |false=>exact hF _ _ (I7.weak l6.symm wk) q7
 |true=>exact thn (he _ s7 σ6 H7 _ I7 q7) λv8 s8 r9=>by obtain⟨y8,H8,I8,r8,n8⟩:=r9;exact hT _ _ _ _ (I8.weak l6.symm wk) r8 n8
theorem U3 {scope:Scope}{pos:Pos}{Q:V->Hp->Prop}{R:Result->Shared->Prop}(hE:(notedBy (model Y.prog Y.w) Y.A Y.env λe s'=>R (.error e) s')=Y.xe)
  (T:Turn Y.prog Y.w Y.K tg J fp it tn)(hG:JS n g)(hg:PG Y tg g)(ht:PTs Y ifs tt)(he:PE Y elt te)(a:CAt Y fp D)(h0:∀(j:Nat) v,σ[j]?=some (some v)->n<=j)
  {W:Nat->Nat->List V->Hp->Prop}(turn:Hd g tt te σ Q J W)
  (hEnd:∀ys its k H3 s4,Inv Y [(D,lob its k)] σ H3 s4->Ys ys its->ys.length<=sizeLine->Q (.ref D) (upd H3 D (.lst ys))->R (.ok .next) s4){m0:Nat}(hi:CI Y tn fp D σ W m0 s):
  codeAny (model Y.prog Y.w) Y.A (.compLoop (.ListComp elt [⟨tg,iter,ifs,0⟩] scope pos) 0 (.ref it) (.ref D) Y.env) R s:=by
 refine Gy (CI Y tn fp D σ W) hE (λm s3 c=>?_) m0 hi
 cases c with
 |mk i H3 ys its k c rv w3=>
 have I3:Inv Y [(D,lob its k)] σ H3 s3:=c.I.pins_of λp hp=>List.mem_singleton.mp hp▸⟨c.l,c.n,a.ne,a.fs,λ_ z=>by cases z⟩
 have t:=turn i m ys H3 w3
 refine t.2.elim (λq=>?_) λq=>?_
 ·exact thn (T.done Y rfl rfl rfl a.calm i _ s3 _ H3 Y.xe I3 (a.pins c.f) c.t q.1) λr s4 h=>.inl ⟨h.1,hEnd ys its k H3 s4 h.2 rv t.1 (q.2 D c.n)⟩
 ·refine q.2.elim λNN h=>?_
  refine thn (T.item Y rfl rfl rfl a.calm i _ s3 _ H3 Y.xe I3 (a.pins c.f) c.t q.1) λr s4 h4=>.inr (h4.elim λu h4=>⟨u,h4.1,thn h4.2 λ_ s5 h5=>h5.elim λx h5=>h5.elim λH5 h5=>?_⟩)
  exact E9 hg ht he hG h0 (h5.1.pinned (a.pins h5.2.2.2.2) (T.obj _ _ h5.2.2.2.1)) h5.2.1 (h.2 x H5 h5.2.2.1)
   (λH7 s7 I7 q7=>(h.1 _ _ q7).elim λm' z=>⟨m',z.1, .mk (i+1) H7 ys its k (FU T h5.2.2.2.1 I7) rv z.2⟩)
   λH8 s8 y v I8 r8 q8=>(h.1 _ _ q8).elim λm' z=>O1 T a (FU T h5.2.2.2.1 I8) (rv.length▸t.1) λk' s' c'=>⟨m',z.1, .mk (i+1) H8 (ys++[y]) (its++[v]) k' c' (rv.append (.cons r8 .nil)) z.2⟩
end
section
variable {X:Cx}{elt tg iter:Expr}{ifs:List Expr}{scope sc:Scope}{pos:Pos}{n:Nat}{tns:List Str}{caps:List (Nat×Str)}{wi:TI}{g:TG}{tt:TT}{te:TE}
structure CompEnd (X:Cx)(pins:List (Addr×Obj))(σ:St)(H3:Hp)(D C:Addr)(ys:List V)(s':Shared):Prop where
 inv:Inv X pins σ (upd H3 D (.lst ys)) s'
 fresh:H3 D=none
 fp:GE X pins (upd H3 D (.lst ys)) C
 ns:∃m,s'.heap.Ns C m
theorem FV {pins:List (Addr×Obj)}{σ σ':St}{H H3:Hp}{s s4:Shared}{D C:Addr}{fp:List Addr}{its:List Value}{k:Nat}{ys:List V}{Y:Cx}(I:Inv X pins σ H s)(hf:∀b∈fp,GE X pins H b)(hD:s.heap.objs.size<=D)(hDlt:D<C)
  (I4:Inv Y [(D,lob its k)] σ' H3 s4)(hos:s4.os=s.os)(u:Un (frs X.stack) fp H H3 s.heap s4.heap)(hok:HOk X.prog X.w H3 s4.heap)(hC:Y.env.locals=C)(rv:Ys ys its)(hz:ys.length<=sizeLine):CompEnd X pins σ H3 D C ys s4:=by
 subst hC
 have p:=I4.pin (D,lob its k) (List.mem_append_right _ (.head _))
 have hDn:H3 D=none:=p.2.1
 have up:∀{b:Addr}{o:HO},H3 b=some o->upd H3 D (.lst ys) b=some o:=λe=>(XA (X7 e hDn)).trans e
 refine⟨I.call' (ch:=fp) hos ⟨u.keep,u.slot,λb o e nn hx=>(XA (Nat.ne_of_lt (Nat.lt_of_lt_of_le (Heap.lt_size e) hD))).trans (u.free b o e nn hx),u.there,λb xs e=>up (u.tups b xs e),λb o xs e=>up (u.frzs b o xs e),λb ps e=>(u.tbls b ps e).elim λmore z=>⟨more,up z⟩⟩ (λa o e=>?_) I4.bare λb hb=>have z:=hf b hb;⟨z.2.2.2.1,z.2.1,z.2.2.2.2.1,z.2.2.2.2.2⟩,hDn,I.fpOk (Nat.le_trans hD (Nat.le_of_lt hDlt)) ((XA (Nat.ne_of_gt hDlt)).trans I4.free),I4.loc.elim λm z=>⟨m,z.1⟩⟩
 by_cases ha:a=D
 ·subst ha
  rw[YB] at e;cases e
  exact⟨hz,its,k,rv,p.1⟩
 ·rw[XA ha] at e
  exact(hok a o e).stay (λb u _ q=>q) (λb q=>up q) λb xs q=>up q
noncomputable def OW (X:Cx)(elt tg iter:Expr)(ifs:List Expr)(scope:Scope)(pos:Pos)(it:Value)(cl:List (Str×Addr))(RR:Value->Addr->Result->Shared->Prop)(E:Value->Shared->Prop)(s:Shared):Prop:=
 wpAny (model X.prog X.w) X.A (newList []) (λacc s₃=>wpAny (model X.prog X.w) X.A (newFunctionEnv scope X.env.globals cl [] X.env.qual none .none (some X.env)) (λcenv s₄=>
   codeAny (model X.prog X.w) X.A (.compStart (.ListComp elt [⟨tg,iter,ifs,0⟩] scope pos) 0 it acc {cenv with scope:=relabel scope X.env}) (RR acc cenv.locals) s₄) E s₃) E s
theorem V6 {σ:St}{i:Nat}{v:V}(e:(ZA n caps σ)[i]?=some (some v)):n<=i/\∃p,caps[i-n]?=some p/\σ[p.1]?=some (some v):=by
 unfold ZA at e
 by_cases h:i<n
 ·rw[List.getElem?_append_left (by simpa using h),List.getElem?_replicate,if_pos h] at e
  cases e
 ·have hi:=Nat.le_of_not_lt h
  rw[List.getElem?_append_right (by simpa using hi),List.length_replicate,List.getElem?_map] at e
  refine⟨hi,?_⟩
  cases hcp:caps[i-n]? with
  |none=>rw[hcp] at e;cases e
  |some p=>
   rw[hcp] at e
   exact⟨p,rfl,Option.join_eq_some_iff.mp (Option.some.inj e)⟩
structure COk (X:Cx)(scope:Scope)(caps:List (Nat×Str)):Prop where
 kind:scope.kind= .function
 cell:∀y∈scope.names,y.2≠NameKind.cell
 loc:∀y∈scope.names,y.2= .local->scope.names.lookup y.1=some .local
 free:∀y∈scope.names,y.2= .free->X.env.scope.names.lookup y.1=some .cell
 caps:∀p∈caps,(X.N[p.1]?=some p.2/\X.env.scope.names.lookup p.2=some .cell)/\scope.names.lookup p.2=some .free
theorem COk.of {N0:List Str}(hsc:X.env.scope=sc)(hN0:X.N=N0)(ok:K0 sc scope N0 tns caps=true):COk X scope caps:=by
 subst hsc
 subst hN0
 unfold K0 at ok
 simp only[Bool.and_eq_true,List.all_eq_true,beq_iff_eq,Bool.or_eq_true,Bool.not_eq_true',beq_eq_false_iff_ne] at ok
 exact⟨ok.1.1.1.1,ok.1.1.1.2,λy hy e=>(ok.1.1.2 y hy).resolve_left (absurd e),λy hy e=>(ok.1.2 y hy).resolve_left (absurd e),ok.2⟩
section
variable {pins:List (Addr×Obj)}{σ:St}{H:Hp}{s:Shared}{fp:List Addr}{cl:List (Str×Addr)}{C:Addr}{E:Value->Shared->Prop}{N:List Str}{h₁:Heap}
theorem Lv (ok:COk X scope caps)(I:Inv X pins σ H s)(hf:∀b∈fp,GE X pins H b)(hlt:∀b∈fp,b<s.heap.objs.size)
  (hsub:∀x c,cl.lookup x=some c->X.env.cells.lookup x=some c)(hall:∀x,(x,NameKind.free)∈scope.names->∃c,cl.lookup x=some c)(hC:s.heap.objs.size<C):(X.comp N scope cl C s H fp E).Ok:=
 ⟨I.ok.mod,ok.kind,I.ok.glob,I.ok.blt,Nat.le_of_lt hC,λx y c h1 h2=>I.ok.inj x y c (hsub x c h1) (hsub y c h2),λx hx=>hall x (hx.elim (λz=>Jg ok.cell z (.inl rfl)) λz=>Jg ok.cell z (.inr rfl)),(λx c hx=>by cases hx),I.ok.hd,I.ok.frames, .inl rfl,
  λb hb=>⟨Nat.ne_of_lt (Nat.lt_trans (hlt b hb) hC),λx c e=>(hf b hb).2.2.2.2.1 x c (hsub x c e)⟩,I.bs,Nat.le_trans I.ok.bsz I.sz,λb o e hb=>(hf b hb).2.2.2.1.elim (I.ok.noex b o e) λz=>absurd (Nat.lt_of_lt_of_le (Heap.lt_size e) (Nat.le_trans I.ok.bsz z)) (Nat.lt_irrefl _),
  λb hb hz=>(List.mem_cons.mp (I.stkSub b hz)).elim (hf b hb).2.1 (hf b hb).2.2.1,I.stack,I.stkFree⟩
theorem Hj (okc:COk X scope caps)(hn:tns.length=n)(ok:(X.comp (tns++caps.map (·.2)) scope cl C s H fp E).Ok)(I:Inv X pins σ H s)
  (hsub:∀x c,cl.lookup x=some c->X.env.cells.lookup x=some c)(hall:∀x,(x,NameKind.free)∈scope.names->∃c,cl.lookup x=some c)(hC:s.heap.objs.size<C)(hns:h₁.Ns C λ_=>none)(old:∀b o,s.heap.get? b=some o->h₁.get? b=some o){tk:Nat}:
  Inv (X.comp (tns++caps.map (·.2)) scope cl C s H fp E) [] (ZA n caps σ) H {s with heap:=h₁,toks:=tk}:=by
 refine⟨ok,rfl,I.bare,Un.kept old,⟨_,hns,λi x v e1 e2 _=>?_⟩,λx c e=>(I.cell x c (hsub x c e)).elim λv z=>z.elim λo z=>⟨v,o,old _ _ z.1,z.2⟩,I.hok.fresh (Nat.le_of_lt hC),λx c e=>I.freeC x c (hsub x c e),λp hp=>Gq (α:=Addr×Obj) hp,I.hok.kept old,by simp[ZA,hn]⟩
 obtain⟨hi,p,hp,hσ⟩:=V6 e2
 have e1':(tns++caps.map (·.2))[i]?=some x:=e1
 rw[List.getElem?_append_right (hn▸hi),hn,List.getElem?_map,hp] at e1'
 cases Option.some.inj e1'
 have p5:=okc.caps p (List.mem_of_getElem? hp)
 obtain⟨m,hm,hl⟩:=I.loc
 obtain⟨u,r,l⟩:=hl p.1 p.2 v p5.1.1 hσ (.inr (.inl p5.1.2))
 refine⟨u,r, .inr ?_⟩
 rcases l with⟨k,_⟩ | ⟨k,c,e,z⟩
 ·cases p5.1.2.symm.trans k
 ·obtain⟨c',e'⟩:=hall p.2 (PySem.mem_of_lookup p5.2)
  cases e.symm.trans (hsub _ _ e')
  exact⟨QF (env:=X.env) p5.2,c,e',z.elim λo z=>⟨o,old _ _ z.1,z.2⟩⟩
variable {J:It}{it:Addr}{tn:Nat->Heap->Prop}{Q:V->Hp->Prop}{RR:Value->Addr->Result->Shared->Prop}{W:Nat->Nat->List V->Hp->Prop}{m0:Nat}
theorem Mc (ok:COk X scope caps)(hc:X.calm=true)(hn:tns.length=n)(hG:JS n g)
  (hb:∀cl C s H ex E,PG (X.comp (tns++caps.map (·.2)) scope cl C s H ex E) tg g/\PTs (X.comp (tns++caps.map (·.2)) scope cl C s H ex E) ifs tt/\PE (X.comp (tns++caps.map (·.2)) scope cl C s H ex E) elt te)
  (I:Inv X pins σ H s)(T:Turn X.prog X.w X.K tg J fp it tn)(t0:tn 0 s.heap)(hf:∀b∈fp,GE X pins H b)
  (hsub:∀x c,cl.lookup x=some c->X.env.cells.lookup x=some c)(hall:∀x,(x,NameKind.free)∈scope.names->∃c,cl.lookup x=some c)
  (w0:W 0 m0 [] H)(turn:Hd g tt te (ZA n caps σ) Q J W)
  (hRR:∀D C ys H3 s',CompEnd X pins σ H3 D C ys s'->Q (.ref D) (upd H3 D (.lst ys))->RR (.ref D) C (.ok .next) s')
  (hC:s.heap.objs.size<C)(hns:h₁.Ns C λ_=>none)(old:∀b o,s.heap.get? b=some o->h₁.get? b=some o)(hacc:h₁.get? s.heap.objs.size=some (lob [] 0)){tk:Nat}:
  codeAny (model X.prog X.w) X.A (.compStart (.ListComp elt [⟨tg,iter,ifs,0⟩] scope pos) 0 (.ref it) (.ref s.heap.objs.size) (compEnvC scope cl C X.env)) (RR (.ref s.heap.objs.size) C) {s with heap:=h₁,toks:=tk}:=by
 have hlt:∀b∈fp,b<s.heap.objs.size:=λb hb=>(T.obj _ _ t0 b hb).elim λo e=>Heap.lt_size e.1
 have okY:∀E,(X.comp (tns++caps.map (·.2)) scope cl C s H fp E).Ok:=λE=>Lv ok I hf hlt hsub hall hC
 have t1:tn 0 h₁:=T.keep _ _ _ t0 λb _ o e=>old b o e
 have loop:∀tk,codeAny (model X.prog X.w) X.A (.compLoop (.ListComp elt [⟨tg,iter,ifs,0⟩] scope pos) 0 (.ref it) (.ref s.heap.objs.size) (compEnvC scope cl C X.env)) (RR (.ref s.heap.objs.size) C) {s with heap:=h₁,toks:=tk}:=λtk=>
  have z:=hb cl C s H fp (notedBy (model X.prog X.w) X.A (compEnvC scope cl C X.env) λe s'=>RR (.ref s.heap.objs.size) C (.error e) s')
  U3 (Y:=X.comp (tns++caps.map (·.2)) scope cl C s H fp _) rfl T hG z.1 z.2.1 z.2.2
   ⟨hc,rfl,Nat.ne_of_lt hC,λhz=>(I.stack.mem hz).2.elim λo ho=>absurd (Heap.lt_size ho.1) (Nat.lt_irrefl _),Nat.le_refl _,λx c e=>(I.cell x c (hsub x c e)).elim λv z=>Nat.ne_of_lt z.lt,λb hb=>Nat.ne_of_lt (hlt b hb),
    λb hb H' h'=>⟨h',Nat.ne_of_lt (Nat.lt_trans (hlt b hb) hC),(okY λ_ _=>True).exfs b hb, .inl hb,λx c e=>(hf b hb).2.2.2.2.1 x c (hsub x c e),λp hp=>Gq (α:=Addr×Obj) hp⟩⟩
   (λj v e=>(V6 e).1) turn (λys its k H3 s4 I4 rv hz q=>hRR _ C ys H3 s4 (FV I hf (Nat.le_refl _) hC I4 I4.os I4.base I4.hok rfl rv hz) q)
   (.mk 0 H [] [] 0 ⟨Hj ok hn (okY _) I hsub hall hC hns old,t1,λb hb=>(hf b hb).1,hacc,I.hok.fresh (Nat.le_refl _)⟩ .nil w0)
 exact codeAny_compStart_list (loop _) (T.self _ 0 _ _ _ t1 (loop _))
theorem UX (ok:COk X scope caps)(hc:X.calm=true)(hn:tns.length=n)(hG:JS n g)
  (hb:∀cl C s H ex E,PG (X.comp (tns++caps.map (·.2)) scope cl C s H ex E) tg g/\PTs (X.comp (tns++caps.map (·.2)) scope cl C s H ex E) ifs tt/\PE (X.comp (tns++caps.map (·.2)) scope cl C s H ex E) elt te)
  {itv:Value}(h:PIE X pins σ tg (λJ H1=>Ic n caps g tt te σ Q J H1) itv s)
  (hsub:∀x c,cl.lookup x=some c->X.env.cells.lookup x=some c)(hall:∀x,(x,NameKind.free)∈scope.names->∃c,cl.lookup x=some c)
  (hRR:∀D C ys H3 s',CompEnd X pins σ H3 D C ys s'->Q (.ref D) (upd H3 D (.lst ys))->RR (.ref D) C (.ok .next) s'):
  OW X elt tg iter ifs scope pos itv cl RR E s:=by
 obtain⟨it,fp,tn,J,H',rfl,I,T,t0,hf,W,⟨m0,w0⟩,turn⟩:=h
 refine wpAny_newObj_type (wpAny_newFunctionEnv ok.cell (by intro y hy;simp at hy) (λh₁ hns₁ hsb₁=>?_) ok.kind)
 have hs:∀o,(s.heap.push o).objs.size=s.heap.objs.size+1:=λo=>Heap.size_push ..
 exact Mc ok hc hn hG hb I T t0 hf hsub hall w0 turn hRR (Nat.lt_of_lt_of_eq (Nat.lt_succ_self _) (hs _).symm) hns₁
  (λb o e=>hsb₁.extBut b o (Nat.ne_of_lt (Nat.lt_trans (Heap.lt_size e) (Nat.lt_of_lt_of_eq (Nat.lt_succ_self _) (hs _).symm))) (Heap.get?_push_of_some _ (Heap.get?_push_of_some _ e)))
  (hsb₁.extBut _ _ (Nat.ne_of_lt (Nat.lt_of_lt_of_eq (Nat.lt_succ_self _) (hs _).symm)) (Heap.get?_push_of_some _ (Heap.get?_push_size _ rfl)))
end
theorem Mf (sc:Scope)(N0:List Str)(tns:List Str)(caps:List (Nat×Str))(hc:X.calm=true)(hi:PI X tg iter wi)(hG:JS tns.length g)
  (hb:∀cl C s H ex E,PG (X.comp (tns++caps.map (·.2)) scope cl C s H ex E) tg g/\PTs (X.comp (tns++caps.map (·.2)) scope cl C s H ex E) ifs tt/\PE (X.comp (tns++caps.map (·.2)) scope cl C s H ex E) elt te)
  (hsc:X.env.scope=sc:=by rfl)(hN0:X.N=N0:=by rfl)(ok:K0 sc scope N0 tns caps=true:=by decide+kernel)
  (hs:∀x,foldedSetIterable iter X.env x=pure x:=by intro _;rfl):
  PE X (.ListComp elt [⟨tg,iter,ifs,0⟩] scope pos) (Fk tns.length caps wi g tt te):=by
 intro pins s σ H Q I h
 have okc:=COk.of hsc hN0 ok
 obtain⟨cl,ecl,hsub,hall⟩:=Fh (scope:=scope) (env:=X.env) λx hx hfr=>I.ok.has x.1 (.inl (okc.free x hx hfr))
 rw[eval_ListComp]
 exact wpAny_comprehension_free (use:=none) rfl hs ecl okc.kind okc.loc (thn (hi pins s σ H _ I h) λxv s₁ h₁=>thn h₁ λitv s₂ h₂=>
  UX (RR:=λacc C=>compPost (model X.prog X.w) X.A X.xe none (EP X pins σ Q) acc C) okc hc rfl hG hb h₂ hsub hall λD C ys H3 s' ce q=>ce.ns.elim λmm hns=>
   ⟨mm,hns,λh' hs'=>⟨.ref D,_,ce.inv.turned (t':=s'.toks) (λb o hb' e=>(hs'.extBut b o hb' e)) ce.fp.1 ce.fp.2.1 ce.fp.2.2.2.1 ce.fp.2.2.2.2.1 ce.fp.2.2.2.2.2,rfl,q⟩⟩)
theorem J3 {x:Str}{px spos:Pos}(j:Nat)(sc:Scope)(N0:List Str)(tns:List Str)(caps:List (Nat×Str))(hc:X.calm=true)(hN:X.N.Nodup)(hj:X.N[j]?=some x)(hx:X.env.scope.names.lookup x=some .local)(hi:PI X tg iter wi)(hG:JS tns.length g)
  (hb:∀cl C s H ex E,PG (X.comp (tns++caps.map (·.2)) scope cl C s H ex E) tg g/\PTs (X.comp (tns++caps.map (·.2)) scope cl C s H ex E) ifs tt/\PE (X.comp (tns++caps.map (·.2)) scope cl C s H ex E) elt te)
  (hsc:X.env.scope=sc:=by rfl)(hN0:X.N=N0:=by rfl)(ok:K0 sc scope N0 tns caps=true:=by decide+kernel)
  (hsw:swapsWith (.ListComp elt [⟨tg,iter,ifs,0⟩] scope pos) (some (.Name x px)) spos.line X.env=pure true:=by rfl)
  (hs:∀x,foldedSetIterable iter X.env x=pure x:=by intro _;rfl):
  PS X (.Assign [.Name x px] (.ListComp elt [⟨tg,iter,ifs,0⟩] scope pos) spos) (Ir (Fk tns.length caps wi g tt te) (ZB j)):=by
 intro pins s σ H D I h
 have okc:=COk.of hsc hN0 ok
 obtain⟨cl,ecl,hsub,hall⟩:=Fh (scope:=scope) (env:=X.env) λx hx hfr=>I.ok.has x.1 (.inl (okc.free x hx hfr))
 rw[exec_Assign_Name_used _ _ _ _ hsw]
 refine wpAny_bind (wpAny_standAt (wpAny_bind ?_))
 show wpAny _ _ (do let _ ←comprehension (.ListComp elt [⟨tg,iter,ifs,0⟩] scope pos) scope X.env _ (newList []) false (eval iter X.env) (some (assign (.Name x px) X.env))) _ _ s
 refine wpAny_bind (thn (wpAny_comprehension_free (use:=some (assign (.Name x px) X.env)) (Q:=λ_ s'=>SP X pins D .next s') rfl hs ecl okc.kind okc.loc
  (thn (hi pins s σ H _ I h) λxv s₁ h₁=>thn h₁ λitv s₂ h₂=>?_)) λ_ s' hq=>wpAny_pure (wpAny_pure hq))
 refine UX (Q:=λv H1=>ZB j v σ H1 D.nx) (RR:=λacc C=>compPost (model X.prog X.w) X.A X.xe (some (assign (.Name x px) X.env)) (λ_ s'=>SP X pins D .next s') acc C) okc hc rfl hG hb h₂ hsub hall ?_
 intro DD C ys H3 s' ce q
 obtain⟨mm,hns⟩:=ce.ns
 obtain⟨c0,c1,c2,c3,c4,c5⟩:=ce.fp
 show wpAny _ _ (assign (.Name x px) X.env (.ref DD)) _ _ _
 refine wpAny_assign_Name (Gn ce.inv hN hj (.inl hx) (v:=.ref DD) rfl (λs2 I2 chg=>?_) (.inr hx))
 obtain⟨c,hsb,hcc⟩:=chg
 have hCc:C≠c:=by
  rcases hcc with z |z
  ·rw[z];exact c1
  ·exact λe=>c4 x c z e.symm
 refine⟨mm,?_,λh' hs'=>?_⟩
 ·obtain⟨o,es,ep,ho,r⟩:=hns
  exact⟨o,es,ep,(hsb.2 C hCc).trans ho,r⟩
 ·exact⟨_,_,I2.turned (t':=s2.toks) (λb o hb' e=>(hs'.extBut b o hb' e)) c0 c1 c3 c4 c5,q⟩
end
section
variable {K:PySem.W.Frag}{a:Addr}{xs:List V}{n:Nat}{caps:List (Nat×Str)}{g:TG}{tt:TT}{te:TE}{σ:St}{H:Hp}{Q:V->Hp->Prop}
end
section
variable {X:Cx}{pos:Pos}
noncomputable def Eh (K:PySem.W.Frag):List V->Hp->VK->Prop:=λxs H Q=>∃ p ys,xs=[.ref p]/\(SqL K H p ys∨SqT K H p ys)/\∀l,H l=none->Q (.ref l) (upd H l (.lst ys))
noncomputable def Cw (K:PySem.W.Frag):List V->Hp->VK->Prop:=λxs H Q=>∃ p ys,xs=[.ref p]/\(SqL K H p ys∨SqT K H p ys)/\Q (.int ys.length) H
theorem Qw (K:PySem.W.Frag)(h:X.K=K):QK X (.type "list") (Eh K):=by subst h;exact Gu
theorem Xo (K:PySem.W.Frag)(h:X.K=K):QK X (.builtin "len") (Cw K):=by subst h;exact Gs
theorem Xn (K:PySem.W.Frag)(h:X.K=K):IxR X (Ib K):=by subst h;exact Lm
theorem Y4 (K:PySem.W.Frag)(h:X.K=K):IxR X (Mo K):=by subst h;exact M0
theorem Ku (K:PySem.W.Frag)(h:X.K=K):SlR X (N1 K):=by subst h;exact L8
theorem Jd (K:PySem.W.Frag)(h:X.K=K){es:List Expr}{k:Nat}{t:TGs}{n:Nat}(hc:X.calm=true)(hh:PGs X es t)
  (hn:(assignEach es X.env).length=n:=by rfl)(hst:(assignEach es X.env).findIdx? (·.1)=none:=by rfl):PG X (.Tuple es k pos) (Ie K n t):=by subst h;exact QA hc hh hn hst
end
structure Fn (P:Program)(w:World)(K:PySem.W.Frag)(mg:Str->Option Value)(base:Heap)(k:Nat)(x:Str)(ps:List Str)(sp:Sp):Prop where
 ex:∃f fd,FnOk P w K mg base CX0 k f fd ps sp/\G2 K fd ps []/\PySem.W.keepIn K (.ref f)=true/\mg x=some (.ref f)
section
variable {X:Cx}{k j:Nat}{x:Str}{ps:List Str}{sp:Sp}{e:Expr}{es:List Expr}{t:TA}{p pos:Pos}
theorem XN (G:Fn X.prog X.w X.K X.mg X.base k x ps sp)(hr:Room j X.A)(hj:k<=j)(ha:PA X (e::es) t)(hg:Gl X x:=by rfl)(hdb:(x==("__debug__":Str))=false:=by decide)
  (he:starEach (e::es) X.env=(false,eval e X.env)::starEach es X.env:=by rfl)(hpl:(backTo pos (starEach es X.env)).any (·.1)=false:=by rfl):
  PE X (.Call (.Name x p) (e::es) [] pos) (DS sp [] E0 t):=by
 obtain⟨f,fd,F,b,kp,m⟩:=G.ex
 exact LV F (hr.mono hj) hg m kp b .nil Oa ha hdb he hpl
end
noncomputable def Def (K:PySem.W.Frag)(mg:Str->Option Value)(x:Str)(st:Stmt)(ps:List Str):Prop:=∃ f fd,Fun K x x st f fd/\G2 K fd ps []/\mg x=some (.ref f)
theorem Yf {P:Program}{w:World}{K:PySem.W.Frag}{mg:Str->Option Value}{base:Heap}{x:Str}{st:Stmt}{N ps:List Str}{k:Nat}{sp:Sp}(D:Def K mg x st ps)(S:FnScope N ps (Xi st))(len:∀vs H Q E,sp vs H Q E->vs.length=ps.length)
  (hbody:∀(f:Addr) (cdv:Value) (A:Around) (outer:List Env) (s:Shared) (H:Hp) (vs:List V) (Q:VK) (E:XK),Room k (A.deeper (envOfC x (Xi st) s.heap.objs.size f cdv))->sp vs H Q E->
   ∃t,PSs (LU CX0 P w K mg base N x (Xi st) f cdv A outer s H E).nox (Za st) t/\t {nx:=λ_ H'=>Q .non H',rt:=Q} (KC N vs) H):Fn P w K mg base (k+1) x ps sp:=by
 obtain⟨f,fd,F,b,m⟩:=D
 exact⟨f,fd,F.ok S len (hbody f),b,F.kp,m⟩
theorem Om {a d c:Nat}(h:d<=8)(hu:a+8<c):a+d<c:=by omega
theorem XL {H:Hp}{p:Addr}(h:H p=none)(o:HO):Xz H (upd H p o):=λb u q=>by rw[XA (X7 q h)];exact q
theorem Xz.own {H H2:Hp}{p:Addr}(s:Xz H H2)(h:H p=none)(o:HO):Xz H (upd H2 p o):=λb u q=>by rw[XA (X7 q h)];exact s b u q
theorem Xz.new {H H2:Hp}{p:Addr}(s:Xz H H2)(h:H2 p=none)(o:HO):Xz H (upd H2 p o):=s.trans (XL h o)
theorem Xz.seqT {K:PySem.W.Frag}{H H':Hp}{a:Addr}{xs:List V}(e:Xz H H')(h:SqT K H a xs):SqT K H' a xs:=by
 rcases h with(h | ⟨o,h⟩) |h
 ·exact .inl (.inl (e _ _ h))
 ·exact .inl (.inr ⟨o,e _ _ h⟩)
 ·exact .inr h
theorem hu8 {A:Around}{k:Nat}(hr:Room k A):A.units+8<cLine:=Nat.lt_of_le_of_lt (Nat.add_le_add_left (by decide:8<=64) _) hr.units
noncomputable abbrev Enc (α:Type):=PySem.W.Frag->Hp->V->α->Prop
noncomputable def Xa:Enc Int:=λ_ _ v i=>v= .int i
noncomputable def rL {α:Type}(r:Enc α):Enc (List α):=λK H v as=>∃ a xs,v= .ref a/\SqL K H a xs/\Paired (r K H) xs as
noncomputable def rT2 {α β:Type}(r:Enc α)(q:Enc β):Enc (α×β):=λK H v p=>∃ a x y,v= .ref a/\SqT K H a [x,y]/\r K H x p.1/\q K H y p.2
theorem Paired.getL {α β:Type}{F:α->β->Prop}:∀{l:List α}{m:List β}{i:Nat}{a:α},Paired F l m->l[i]?=some a->∃b,m[i]?=some b/\F a b
 |_,_,_,_, .nil,e=>by simp at e
 |_,_,0,_, .cons r _,e=>by simp at e;subst e;exact⟨_,rfl,r⟩
 |_,_,i+1,a, .cons _ t,e=>by
  obtain⟨b,h1,h2⟩:=Paired.getL (i:=i) (a:=a) t (by simpa using e)
  exact⟨b,by simpa using h1,h2⟩
theorem Paired.getR {α β:Type}{F:α->β->Prop}:∀{l:List α}{m:List β}{i:Nat}{b:β},Paired F l m->m[i]?=some b->∃a,l[i]?=some a/\F a b
 |_,_,_,_, .nil,e=>by simp at e
 |_,_,0,_, .cons r _,e=>by simp at e;subst e;exact⟨_,rfl,r⟩
 |_,_,i+1,b, .cons _ t,e=>by
  obtain⟨a,h1,h2⟩:=Paired.getR (i:=i) (b:=b) t (by simpa using e)
  exact⟨a,by simpa using h1,h2⟩
theorem Paired.len {α β:Type}{F:α->β->Prop}{l:List α}{m:List β}(h:Paired F l m):l.length=m.length:=Paired.length h
theorem Paired.app {α β:Type}{F:α->β->Prop}:∀{l l':List α}{m m':List β},Paired F l m->Paired F l' m'->Paired F (l++l') (m++m'):=λp h=>by
 induction p with
 |nil=>exact h
 |cons r _ ih=>exact .cons r ih
theorem Fw (ns:List Int):∀{K:PySem.W.Frag}{H:Hp},Paired (Xa K H) (ns.map V.int) ns:=by
 intro K H
 induction ns with
 |nil=>exact .nil
 |cons n r ih=>exact .cons rfl ih
theorem Jp:∀{xs:List V}{ns:List Int}{K:PySem.W.Frag}{H:Hp},Paired (Xa K H) xs ns->xs=ns.map V.int
 |_,_,_,_, .nil=>rfl
 |_,_,_,_, .cons r t=>by
  have r':_=V.int _:=r
  rw[r',Jp t];rfl
structure EqOk {α:Type}[DecidableEq α](r:Enc α)(d:Nat):Prop where
 uniq:∀{X:Cx}{pins:List (Addr×Obj)}{σ:St}{H:Hp}{s:Shared}{x:V}{a b:α},Inv X pins σ H s->r X.K H x a->r X.K H x b->a=b
 eq:∀{X:Cx}{pins:List (Addr×Obj)}{σ:St}{H:Hp}{s:Shared}{x y:V}{v u:Value}{a b:α}{A:Around},Inv X pins σ H s->Yo x v->Yo y u->r X.K H x a->r X.K H y b->A.units+d<cLine->SeqAt.EqAt A s v u (decide (a=b))
 rc:∀{X:Cx}{pins:List (Addr×Obj)}{σ:St}{H:Hp}{s:Shared}{x y:V}{v u:Value}{a b:α}{A:Around},Inv X pins σ H s->Yo x v->Yo y u->r X.K H x a->r X.K H y b->A.units+d<cLine->SeqAt.RcAt A s v u (decide (a=b))
 ne:∀{X:Cx}{pins:List (Addr×Obj)}{σ:St}{H:Hp}{s:Shared}{x y:V}{v u:Value}{a b:α}{A:Around},Inv X pins σ H s->Yo x v->Yo y u->r X.K H x a->r X.K H y b->A.units+d<cLine->SeqAt.RcNeAt A s v u (!decide (a=b))
 keep:∀{K:PySem.W.Frag}{H H':Hp}{x:V}{a:α},Xz H H'->r K H x a->r K H' x a
theorem EqOk.up {α:Type}[DecidableEq α]{r:Enc α}{d e:Nat}(E:EqOk r d)(h:d<=e):EqOk r e:=
 ⟨E.uniq,λI rx ry h1 h2 hu=>E.eq I rx ry h1 h2 (by omega),λI rx ry h1 h2 hu=>E.rc I rx ry h1 h2 (by omega),λI rx ry h1 h2 hu=>E.ne I rx ry h1 h2 (by omega),E.keep⟩
theorem Uw (A:Around):A.in1.units=A.units+1:=rfl
theorem HB {a b:Int}:(a==b)=decide (a=b):=by rw[Bool.eq_iff_iff];simp
theorem eq_int:EqOk Xa 0 where
 uniq:=λ_ h1 h2=>by
  have h1':_=V.int _:=h1
  have h2':_=V.int _:=h2
  rw[h1'] at h2';injection h2'
 eq:=fun {X pins σ H s x y v u a b A} I rx ry h1 h2 _=>by
  have h1':x=V.int a:=h1
  have h2':y=V.int b:=h2
  subst h1' h2'
  obtain⟨t,rfl⟩:=rx
  obtain⟨t',rfl⟩:=ry
  rw[←HB];exact SeqAt.EqAt.int_int a t b t'
 rc:=fun {X pins σ H s x y v u a b A} I rx ry h1 h2 _=>by
  have h1':x=V.int a:=h1
  have h2':y=V.int b:=h2
  subst h1' h2'
  obtain⟨t,rfl⟩:=rx
  obtain⟨t',rfl⟩:=ry
  rw[←HB];exact SeqAt.RcAt.int_int a t b t'
 ne:=fun {X pins σ H s x y v u a b A} I rx ry h1 h2 _=>by
  have h1':x=V.int a:=h1
  have h2':y=V.int b:=h2
  subst h1' h2'
  obtain⟨t,rfl⟩:=rx
  obtain⟨t',rfl⟩:=ry
  rw[←HB];exact SeqAt.RcNeAt.int_int a t b t'
 keep:=λ_ h=>h
theorem CP {α:Type}[DecidableEq α]{as bs:List α}(h:as.length=bs.length):(List.range as.length).all (λj=>decide (as[j]?=bs[j]?))=decide (as=bs):=by
 rw[Bool.eq_iff_iff]
 simp only[List.all_eq_true,List.mem_range,decide_eq_true_eq]
 constructor
 ·intro hh
  apply List.ext_getElem?
  intro i
  by_cases hi:i<as.length
  ·exact hh i hi
  ·rw[List.getElem?_eq_none (by omega),List.getElem?_eq_none (by omega)]
 ·rintro rfl;intros;rfl
theorem Paired.uniq {α β:Type}{F:α->β->Prop}(hu:∀a b c,F a b->F a c->b=c):∀{l:List α}{m m':List β},Paired F l m->Paired F l m'->m=m':=fun {l m m'} p=>by
 induction p generalizing m' with
 |nil=>intro q;cases q;rfl
 |cons r _ ih=>intro q;cases q with |cons r' t'=>rw[hu _ _ _ r r',ih t']
theorem Paired.imp2 {α β:Type}{F G:α->β->Prop}(h:∀a b,F a b->G a b):∀{l:List α}{m:List β},Paired F l m->Paired G l m:=λp=>by
 induction p with
 |nil=>exact .nil
 |cons r _ ih=>exact .cons (h _ _ r) ih
section
variable {α:Type}[DecidableEq α]{r:Enc α}{d:Nat}
theorem UO (E:EqOk r d){X:Cx}{pins:List (Addr×Obj)}{σ:St}{H:Hp}{s:Shared}{A:Around}(I:Inv X pins σ H s)(hu:A.units+(d+1)<cLine){xs ys:List V}{as bs:List α}{its its2:List Value}
  (r1:Ys xs its)(r2:Ys ys its2)(p1:Paired (r X.K H) xs as)(p2:Paired (r X.K H) ys bs):
  ∀j (h1:j<its.toArray.size) (h2:j<its2.toArray.size),SeqAt.EqAt A.in1 s its.toArray[j] its2.toArray[j] (decide (as[j]?=bs[j]?)):=by
 intro j h1 h2
 have h1':j<its.length:=by simpa using h1
 have h2':j<its2.length:=by simpa using h2
 obtain⟨x,ex,rx⟩:=Paired.getR (i:=j) (b:=its[j]) r1 (by simp[h1'])
 obtain⟨y,ey,ry⟩:=Paired.getR (i:=j) (b:=its2[j]) r2 (by simp[h2'])
 obtain⟨a,ea,ra⟩:=Paired.getL p1 ex
 obtain⟨b,eb,rb⟩:=Paired.getL p2 ey
 have:=E.eq (A:=A.in1) I rx ry ra rb (by rw[Uw];omega)
 rw[ea,eb]
 simpa using this
theorem Lx (E:EqOk r d):EqOk (rL r) (d+1):=by
 have un:∀{X:Cx}{pins:List (Addr×Obj)}{σ:St}{H:Hp}{s:Shared}{x:V}{a b:List α},Inv X pins σ H s->rL r X.K H x a->rL r X.K H x b->a=b:=by
  intro X pins σ H s x as bs I h1 h2
  obtain⟨a,xs,rfl,q1,p1⟩:=h1
  obtain⟨b,ys,e,q2,p2⟩:=h2
  cases e
  cases I.list_inj q1 q2
  exact Paired.uniq (F:=r X.K H) (λ_ _ _ z z'=>E.uniq I z z') p1 p2
 have rc:∀{X:Cx}{pins:List (Addr×Obj)}{σ:St}{H:Hp}{s:Shared}{x y:V}{v u:Value}{a b:List α}{A:Around},Inv X pins σ H s->Yo x v->Yo y u->rL r X.K H x a->rL r X.K H y b->A.units+(d+1)<cLine->SeqAt.RcAt A s v u (decide (a=b)):=by
  intro X pins σ H s x y v u as bs A I rx ry h1 h2 hu
  obtain⟨a,xs,rfl,q1,p1⟩:=h1
  obtain⟨b,ys,rfl,q2,p2⟩:=h2
  cases rx;cases ry
  obtain⟨its,r1,l1,_⟩:=I.list q1
  obtain⟨its2,r2,l2,_⟩:=I.list q2
  have n1:=r1.length
  have n2:=r2.length
  have m1:=Paired.len p1
  have m2:=Paired.len p2
  by_cases hl:as.length=bs.length
  ·have:=SeqAt.RcAt.lists (A:=A) (e:=λj=>decide (as[j]?=bs[j]?)) l1.isList l2.isList (by simp only[List.size_toArray];omega) (by omega) (UO E I hu r1 r2 p1 p2)
   rw[show its.toArray.size=as.length by simp only[List.size_toArray];omega,CP hl] at this
   exact this
  ·rw[decide_eq_false (λe=>hl (congrArg List.length e))]
   exact SeqAt.RcAt.lists_lengths l1.isList l2.isList (by simp only[List.size_toArray,bne_iff_ne];omega) (by omega)
 refine⟨un,?_,rc,?_,?_⟩
 ·intro X pins σ H s x y v u as bs A I rx ry h1 h2 hu
  obtain⟨a,xs,rfl,q1,p1⟩:=id h1
  obtain⟨b,ys,rfl,q2,p2⟩:=id h2
  have R:=rc (A:=A) I rx ry h1 h2 hu
  cases rx;cases ry
  by_cases e:a=b
  ·subst e
   rw[decide_eq_true (un I h1 h2)]
   exact SeqAt.EqAt.same _
  ·exact SeqAt.EqAt.of_refs e R
 ·intro X pins σ H s x y v u as bs A I rx ry h1 h2 hu
  obtain⟨a,xs,rfl,q1,p1⟩:=h1
  obtain⟨b,ys,rfl,q2,p2⟩:=h2
  cases rx;cases ry
  obtain⟨its,r1,l1,_⟩:=I.list q1
  obtain⟨its2,r2,l2,_⟩:=I.list q2
  have n1:=r1.length
  have n2:=r2.length
  have m1:=Paired.len p1
  have m2:=Paired.len p2
  by_cases hl:as.length=bs.length
  ·have:=SeqAt.RcNeAt.lists (A:=A) (e:=λj=>decide (as[j]?=bs[j]?)) l1.isList l2.isList (by simp only[List.size_toArray];omega) (by omega) (UO E I hu r1 r2 p1 p2)
   rw[show its.toArray.size=as.length by simp only[List.size_toArray];omega,CP hl] at this
   exact this
  ·rw[decide_eq_false (λe=>hl (congrArg List.length e))]
   exact SeqAt.RcNeAt.lists_lengths l1.isList l2.isList (by simp only[List.size_toArray,bne_iff_ne];omega) (by omega)
 ·intro K H H' x as e h
  obtain⟨a,xs,rfl,q1,p1⟩:=h
  exact⟨a,xs,rfl,e.seq q1,Paired.imp2 (λ_ _ z=>E.keep e z) p1⟩
end
section
variable {α β:Type}[DecidableEq α][DecidableEq β]{r:Enc α}{q:Enc β}{d:Nat}
theorem Dp {a1 a2:α}{b1 b2:β}:(decide (a1=a2)&&decide (b1=b2))=decide ((a1,b1)=(a2,b2)):=by
 rw[Bool.eq_iff_iff];simp
theorem LR (E:EqOk r d)(F:EqOk q d):EqOk (rT2 r q) (d+1):=by
 have un:∀{X:Cx}{pins:List (Addr×Obj)}{σ:St}{H:Hp}{s:Shared}{x:V}{a b:α×β},Inv X pins σ H s->rT2 r q X.K H x a->rT2 r q X.K H x b->a=b:=by
  rintro X pins σ H s x ⟨a1,a2⟩ ⟨b1,b2⟩ I h1 h2
  obtain⟨a,x1,x2,rfl,q1,p1,p2⟩:=h1
  obtain⟨b,y1,y2,e,q2,p3,p4⟩:=h2
  cases e
  cases I.tuple_inj q1 q2
  rw[show a1=b1 from E.uniq I p1 p3,show a2=b2 from F.uniq I p2 p4]
 have its:∀{X:Cx}{pins:List (Addr×Obj)}{σ:St}{H:Hp}{s:Shared}{x1 x2 y1 y2:V}{u1 u2 w1 w2:Value}{a b:α×β}{A:Around},Inv X pins σ H s->Yo x1 u1->Yo x2 u2->Yo y1 w1->Yo y2 w2->
   r X.K H x1 a.1->q X.K H x2 a.2->r X.K H y1 b.1->q X.K H y2 b.2->A.units+(d+1)<cLine->
   ∀j (h1:j< [u1,u2].toArray.size) (h2:j< [w1,w2].toArray.size),SeqAt.EqAt A.in1 s [u1,u2].toArray[j] [w1,w2].toArray[j] ((λj=>if j=0 then decide (a.1=b.1) else decide (a.2=b.2)) j):=by
  intro X pins σ H s x1 x2 y1 y2 u1 u2 w1 w2 a b A I e1 e2 e3 e4 p1 p2 p3 p4 hu j h1 h2
  have hj:j=0∨j=1:=by
   have h1':j<2:=h1
   omega
  rcases hj with rfl |rfl
  ·exact E.eq (A:=A.in1) I e1 e3 p1 p3 (by rw[Uw];omega)
  ·exact F.eq (A:=A.in1) I e2 e4 p2 p4 (by rw[Uw];omega)
 have rc:∀{X:Cx}{pins:List (Addr×Obj)}{σ:St}{H:Hp}{s:Shared}{x y:V}{v u:Value}{a b:α×β}{A:Around},Inv X pins σ H s->Yo x v->Yo y u->rT2 r q X.K H x a->rT2 r q X.K H y b->A.units+(d+1)<cLine->SeqAt.RcAt A s v u (decide (a=b)):=by
  rintro X pins σ H s x y v u ⟨a1,a2⟩ ⟨b1,b2⟩ A I rx ry h1 h2 hu
  obtain⟨a,x1,x2,rfl,q1,p1,p2⟩:=h1
  obtain⟨b,y1,y2,rfl,q2,p3,p4⟩:=h2
  cases rx;cases ry
  obtain⟨i1,r1,l1,_⟩:=I.tuple q1
  obtain⟨i2,r2,l2,_⟩:=I.tuple q2
  obtain⟨u1,u2,rfl,e1,e2⟩:=Ys.two r1
  obtain⟨w1,w2,rfl,e3,e4⟩:=Ys.two r2
  have:=SeqAt.RcAt.tuples (A:=A) l1 l2 (by omega) (its (a:=(a1,a2)) (b:=(b1,b2)) I e1 e2 e3 e4 p1 p2 p3 p4 hu)
  rw[←Dp]
  simpa[List.range_succ] using this
 refine⟨un,?_,rc,?_,?_⟩
 ·intro X pins σ H s x y v u as bs A I rx ry h1 h2 hu
  obtain⟨a,x1,x2,rfl,q1,p1,p2⟩:=id h1
  obtain⟨b,y1,y2,rfl,q2,p3,p4⟩:=id h2
  have R:=rc (A:=A) I rx ry h1 h2 hu
  cases rx;cases ry
  by_cases e:a=b
  ·subst e
   rw[decide_eq_true (un I h1 h2)]
   exact SeqAt.EqAt.same _
  ·exact SeqAt.EqAt.of_refs e R
 ·rintro X pins σ H s x y v u ⟨a1,a2⟩ ⟨b1,b2⟩ A I rx ry h1 h2 hu
  obtain⟨a,x1,x2,rfl,q1,p1,p2⟩:=h1
  obtain⟨b,y1,y2,rfl,q2,p3,p4⟩:=h2
  cases rx;cases ry
  obtain⟨i1,r1,l1,_⟩:=I.tuple q1
  obtain⟨i2,r2,l2,_⟩:=I.tuple q2
  obtain⟨u1,u2,rfl,e1,e2⟩:=Ys.two r1
  obtain⟨w1,w2,rfl,e3,e4⟩:=Ys.two r2
  have:=SeqAt.RcNeAt.tuples (A:=A) l1 l2 (by omega) (its (a:=(a1,a2)) (b:=(b1,b2)) I e1 e2 e3 e4 p1 p2 p3 p4 hu)
  rw[←Dp]
  simpa[List.range_succ] using this
 ·intro K H H' x as e h
  obtain⟨a,x1,x2,rfl,q1,p1,p2⟩:=h
  exact⟨a,x1,x2,rfl,e.seqT q1,E.keep e p1,F.keep e p2⟩
end
section
variable {X:Cx}{α:Type}[DecidableEq α]{r:Enc α}{d:Nat}
noncomputable def Oz (K:PySem.W.Frag)(r:Enc α):R2:=λx y H Q=>∃ a b,r K H x a/\r K H y b/\Q (.bl (!decide (a=b))) H
theorem NO (E:EqOk r d)(hu:X.A.units+d<cLine):OpR X (compareOp .NotEq) (Oz X.K r):=by
 intro pins s σ H x y v u Q I rx ry h
 obtain⟨a,b,h1,h2,q⟩:=h
 exact E.ne (A:=X.A) I rx ry h1 h2 hu _ _ _ _ ⟨.bl _,H,I,rfl,q⟩
theorem V4:QK X (.builtin "isinstance") (λxs H Q=>∃ x n t b,xs=[x, .ty n]/\TyOf X.K H x t/\PySem.W.kitOne X.K t (.type n)=some b/\Q (.bl b) H):=by
 intro pins s σ H xs us Q I r h
 obtain⟨x,n,t,b,rfl,ty,e,q⟩:=h
 obtain⟨u,v,rfl,ru,rv⟩:=Ys.two r
 cases(show v=Value.type n from rv)
 exact B4 I ru ty e λtk=>⟨.bl b,H,I.tok tk,rfl,q⟩
theorem F3:OpR X (binaryOp .FloorDiv) (rI (λ_ j=>0<j/\j.natAbs.log2<9000) λi j=>.int (i/j)):=opI λi j _ _ _ _ _ hc q=>by
 refine floordiv_int (by omega) ?_ (.inl (PyProof.noPylong_of_log2 hc.2))
 rw[Int.fdiv_eq_ediv_of_nonneg i (by omega)]
 exact q
end
end L2
namespace PySem
open Sem (wp)
section
variable {prog:Program}{w:World}{A:Around}{E:Value->Shared->Prop}{s:Shared}
end
end PySem
namespace L2
open PySem PySem.Spec PyProof.Rows
theorem Kj {α β:Type}{F:α->β->Prop}:∀{l:List α}{m:List β}{i:Nat}{b:β},Paired F l m->m[i]?=some b->∃a,l[i]?=some a/\F a b
 |_,_,_,_, .nil,e=>by simp at e
 |_,_,0,_, .cons r _,e=>by simp at e;subst e;exact⟨_,rfl,r⟩
 |_,_,i+1,b, .cons _ t,e=>by
  obtain⟨a,h1,h2⟩:=Kj (i:=i) (b:=b) t (by simpa using e)
  exact⟨a,by simpa using h1,h2⟩
section
variable {X:Cx}{e:Expr}{te:TE}
noncomputable def OS (K:PySem.W.Frag):List V->Hp->VK->Prop:=λxs H Q=>∃ (a:Addr) (ns:List Int),xs=[.ref a]/\SqL K H a (ns.map V.int)/\Q (.int ns.sum) H
theorem Ud (hc:X.calm=true):QK X (.builtin "sum") (OS X.K):=by
 intro pins s σ H xs us Q I r h
 obtain⟨a,ns,rfl,hq,q⟩:=h
 obtain⟨u,rfl,ru⟩:=DC r
 cases ru
 obtain⟨its,rv,pl,hz⟩:=I.list hq
 have hi:IntsAre its ns:=DJ rv
 have hlen:=hi.length
 have hlt:a<s.heap.objs.size:=by obtain⟨o,n,ho,_⟩:=pl;exact Heap.lt_size ho
 refine call_sum_walkG ?_
 refine wpAny_pyIter_list pl.isList ?_
 have W:=Walks.list (prog:=X.prog) (w:=X.w) (A:=X.A.in1) (I.ok.hd hc) s.heap.objs.size a (Nat.ne_of_lt hlt) its.toArray
 refine⟨s.heap.objs.size,_,_,_,_,_,λi=>ns.getD i 0,rfl,W,⟨⟨_,Heap.get?_push_size _ rfl,rfl,rfl⟩,pl.isList.at λo e=>Heap.get?_push_of_some _ e⟩,λb hb=>?_,λi v hv=>?_,λh' tk t' hk=>?_⟩
 ·rcases List.mem_cons.mp hb with e |hb
  ·rw[e,Heap.size_push];exact Nat.lt_succ_self _
  ·rw[List.mem_singleton.mp hb,Heap.size_push];exact Nat.lt_succ_of_lt hlt
 ·have hv':its[i]?=some v:=by simpa using hv
  have hil:i<its.length:=(List.getElem?_eq_some_iff.mp hv').1
  obtain⟨x,ex,rx⟩:=Kj rv hv'
  rw[List.getElem?_map] at ex
  cases e:ns[i]? with
  |none=>rw[e] at ex;cases ex
  |some z=>
   rw[e] at ex
   have ex':V.int z=x:=Option.some.inj ex
   subst ex'
   obtain⟨t,rfl⟩:=rx
   exact⟨t,by simp[List.getD,e]⟩
 ·have I2:Inv X pins σ H {s with heap:=h',toks:=tk}:=I.kept (t':=tk) λb o e=>hk b o (λhm=>by
   rw[List.mem_singleton.mp hm] at e
   exact absurd (Heap.lt_size e) (Nat.lt_irrefl _)) (Heap.get?_push_of_some _ e)
  refine⟨.int ns.sum,H,I2,⟨t',?_⟩,q⟩
  rw[List.size_toArray,hlen,preSum_getD,List.take_length]
end
section
variable {X:Cx}{pins:List (Addr×Obj)}{σ:St}{H:Hp}{s:Shared}{h':Heap}
theorem Inv.turnLay {t':Nat}{ch:List Addr}{T:Addr}{u:HO}(I:Inv X pins σ H s)(k:∀b o,b∉ch->s.heap.get? b=some o->h'.get? b=some o)(hf:∀b∈ch,GE X pins H b)
  (hp:s.heap.objs.size<=T)(new:Y3 X.prog X.w (upd H T u) h' T u):Inv X pins σ (upd H T u) {s with heap:=h',toks:=t'}:=by
 have hn:H T=none:=I.hok.fresh hp
 have nit:∀b o,H b=some o->b∉ch:=λb o e z=>by rw[(hf b z).1] at e;cases e
 refine I.step (g':=s.gens) (d':=s.drawn) (ch:=ch) (λb hb=>?_) (λb o _ _ hc e _=>k b o hc e) (λb o _ _ hc e _=>⟨o.slots,k b o hc e⟩)
  (λb o _ e n=>by rw[XA (Nat.ne_of_lt (Nat.lt_of_lt_of_le (Heap.lt_size e) hp))];exact n)
  (λb o hc e=>⟨o,k b o hc e⟩) (λb xs e=>by rw[XA (X7 e hn)];exact e) (λb o xs e=>by rw[XA (X7 e hn)];exact e) (λb ps e=>⟨#[],by rw[XA (X7 e hn),e];simp⟩) (λm hm=>?_) (λb v e=>?_) I.bare
 ·obtain⟨f0,f1,f2,f3,f4,f5⟩:=hf b hb
  exact⟨f3,f1,f4,f5⟩
 ·obtain⟨o,es,ep,ho,r⟩:=hm
  exact⟨o,es,ep,k _ o (λz=>(hf _ z).2.1 rfl) ho,r⟩
 ·by_cases hb:b=T
  ·subst hb;rw[YB] at e;cases e;exact new
  ·rw[XA hb] at e
   refine(I.hok b v e).stay (λc o hc q=>k c o ?_ q) (λc q=>by rw[XA (X7 q hn)];exact q) λc xs q=>by rw[XA (X7 q hn)];exact q
   rcases hc with z |z
   ·rw[z];exact nit b v e
   ·exact nit c _ z
end
noncomputable def Ite (K:PySem.W.Frag)(a:Addr):It:=
 ⟨λi H=>∃ xs x,SqL K H a xs/\xs[i]?=some x,λi H y H'=>∃ p x,y= .ref p/\H p=none/\H'=upd H p (.tup [.int (i:Int),x])/\∀xs,SqL K H a xs->xs[i]?=some x,λi H=>∃ xs,SqL K H a xs/\xs.length<=i⟩
theorem Ct {P:Program}{w:World}{K:PySem.W.Frag}{elts:List Expr}{k:Nat}{pos:Pos}(a e it:Addr)(h1:e≠it)(h2:a≠e)(h3:a≠it):
  Turn P w K (.Tuple elts k pos) (Ite K a) [e,it] e (λi h=>(∃old,IsEnum h e it (i:Int) old)/\h.IsListIter it a i) where
 mem:=by simp
 obj:=λi h st b hb=>by
  obtain⟨⟨old,eo⟩,o,io,c,d⟩:=st
  rcases List.mem_cons.mp hb with z |z
  ·subst z
   exact⟨_,eo,λv z=>by cases z⟩
  ·have z:=List.mem_singleton.mp z
   subst z
   exact⟨o,io,λv z=>by rw[d] at z;cases z⟩
 keep:=λi h h' st k=>⟨let ⟨old,eo⟩:=st.1;⟨old,k e (by simp) _ eo⟩,st.2.at λo q=>k it (by simp) o q⟩
 item:=by
  intro X hP hw hK hc i pins s σ H E I hf st hg
  subst hP hw hK
  obtain⟨xs,x,hq,hx⟩:=hg
  obtain⟨its,rv,p,hz⟩:=I.list hq
  obtain⟨u,hu,ru⟩:=rv.get hx
  obtain⟨⟨old,eo⟩,io⟩:=id st
  have hu':its.toArray[i]?=some u:=by simpa using hu
  have W:=WalksT.enumerate (prog:=X.prog) (w:=X.w) (A:=X.A) (I.ok.hd hc) e it a h1 h2 h3 its.toArray
  refine wpAny_pyNext_enum_item eo io p.isList hu' h1 λh' eo' io' tup sz kk=>?_
  have hT:∀b o,s.heap.get? b=some o->s.heap.objs.size≠b:=λb o q z=>absurd (Heap.lt_size q) (by rw[←z];exact Nat.lt_irrefl _)
  have hTe:=hT e _ eo
  have hTi:s.heap.objs.size≠it:=by obtain⟨o,q,_⟩:=io;exact hT it o q
  have ha':h'.IsList a its.toArray:=p.isList.at λo q=>kk a o h2 h3 q
  refine⟨_,rfl,W.go elts k pos i s.heap.objs.size _ _ _ ⟨⟨_,eo'⟩,io',ha',hTe,hTi⟩ λh'' st' kk'=>?_⟩
  obtain⟨st2,io2,_⟩:=st'
  have tup2:=kk' _ _ (by simp[hTe,hTi]) tup
  have k2:∀b o,b∉ [e,it]->s.heap.get? b=some o->h''.get? b=some o:=λb o q1 q=>kk' b o q1 (kk b o (λz=>q1 (by simp[z])) (λz=>q1 (by simp[z])) q)
  refine⟨.ref s.heap.objs.size,upd H s.heap.objs.size (.tup [.int (i:Int),x]),I.turnLay (h':=h'') (t':=s.toks+1) k2 hf (Nat.le_refl _) ⟨by show 2<=sizeLine;decide,[.int (i:Int) s.toks,u], .cons ⟨_,rfl⟩ (.cons ru .nil),⟨_,tup2,⟨rfl,rfl⟩,_,rfl⟩⟩,rfl,
   ⟨_,x,rfl,I.hok.fresh (Nat.le_refl _),rfl,λys hy=>by rw[I.list_inj hy hq];exact hx⟩,⟨by simpa using st2,io2⟩,λb hb=>?_⟩
  rcases List.mem_cons.mp hb with z |z
  ·rw[z,XA hTe.symm];exact(hf e (by simp)).1
  ·rw[List.mem_singleton.mp z,XA hTi.symm];exact(hf it (by simp)).1
 done:=by
  intro X hP hw hK hc i pins s σ H E I hf st hg
  subst hP hw hK
  obtain⟨xs,hq,hx⟩:=hg
  obtain⟨its,rv,p,hz⟩:=I.list hq
  obtain⟨⟨old,eo⟩,io⟩:=id st
  obtain⟨f0,f1,f2,f3,f4,f5⟩:=hf it (by simp)
  have hl:=rv.length
  exact wpAny_pyNext_enum_end (I.ok.hd hc) eo io p.isList (by simp;omega) λh' eb=>⟨rfl,I.turned (t':=s.toks) (λb o hb q=>eb b o hb q) f0 f1 f3 f4 f5⟩
 self:=by
  intro A i s Q E st h
  obtain⟨⟨old,eo⟩,io⟩:=st
  exact wpAny_pyIter_enum eo h
section
variable {X:Cx}{elts:List Expr}{k:Nat}{pos0:Pos}
noncomputable def MW (K:PySem.W.Frag)(tl:TE):TI:=λσ H R=>tl σ H λx H1=>∃ a,x= .ref a/\(∃xs,SqL K H1 a xs)/\R (Ite K a) H1
theorem BT {l:Expr}{tl:TE}{p pos:Pos}(hg:Gl X "enumerate")(hm:X.mg "enumerate" =none)(hl:PE X l tl)(hs:starEach [l] X.env=[(false,eval l X.env)]:=by rfl):
  PI X (.Tuple elts k pos0) (.Call (.Name "enumerate" p) [l] [] pos) (MW X.K tl):=by
 intro pins s σ H R I h
 refine wpAny_Call_Name_kw (U2 I hg hm boot_enumerate ?_)
 refine PyProof.Rows.callWith_type1 ?_ hs rfl
 rw[hs]
 show wpAny _ _ (spliced ((false,eval l X.env)::backTo pos [])) _ _ s
 refine Calls.spliced_cons (thn (hl pins s σ H _ I h) λv s1 ⟨x,H1,I1,r1,a,ex,⟨xs,hq⟩,q⟩=>?_)
 subst ex
 cases r1
 obtain⟨its,rv,pl,hz⟩:=I1.list hq
 refine Calls.spliced_nil ?_
 have hlt:a<s1.heap.objs.size:=by obtain⟨o,n,ho,_⟩:=pl;exact Heap.lt_size ho
 refine call_enumerate_list pl.isList λh' en io sz kk=>?_
 refine wpAny_pyIter_enum en ?_
 refine⟨_,[s1.heap.objs.size+1,s1.heap.objs.size],_,_,H1,rfl,I1.kept (t':=s1.toks) kk,Ct a _ _ (Nat.ne_of_gt (Nat.lt_succ_self _)) (Nat.ne_of_lt (Nat.lt_succ_of_lt hlt)) (Nat.ne_of_lt hlt),⟨⟨_,en⟩,io⟩,λb hb=>?_,q⟩
 have hb':s1.heap.objs.size<=b:=by
  rcases List.mem_cons.mp hb with z |z
  ·rw[z];exact Nat.le_succ _
  ·rw[List.mem_singleton.mp z];exact Nat.le_refl _
 exact I1.fpOk hb' (I1.hok.fresh hb')
end
noncomputable def Ek (K:PySem.W.Frag):V->List V->Hp->VK->Prop:=λx vs H Q=>∃ l xs y,∃j:Nat,x= .ref l/\vs=[y]/\SqL K H l xs/\Vr y=true/\xs.all Vr=true/\(∃z,xs[j]?=some z/\eqV z y=true)/\(∀(m:Nat) z,m<j->xs[m]?=some z->eqV z y=false)/\Q (.int (j:Int)) H
section
variable {X:Cx}
theorem HR:MtR X "list.index" (Ek X.K):=by
 intro pins s σ H x vs v us Q I rx rv h
 obtain⟨l,xs,y,j,rfl,rfl,hq,fy,fs,⟨z,hz,ez⟩,hm,q⟩:=h
 cases rx
 obtain⟨u,rfl,ry⟩:=Ys.one rv
 obtain⟨its,r,pl,hle⟩:=I.list hq
 have hl:=r.length
 have hjl:=(List.getElem?_eq_some_iff.mp hz).1
 have ge:∀(m:Nat) (w:V),xs[m]?=some w->∀hm:m<its.toArray.size,eqU y its.toArray[m]=eqV w y:=λm w hw hm=>by
  obtain⟨u',hu',ru'⟩:=r.get hw
  have e:its.toArray[m]=u':=by
   have:=(List.getElem?_eq_some_iff.mp hu').2
   simpa using this
  rw[e]
  exact CB ru' (List.all_eq_true.mp fs w (List.mem_of_getElem? hw))
 obtain⟨o,n,ho,hc,hd,hs⟩:=id pl
 obtain⟨cls,dict,data,slots⟩:=o
 cases hc;cases hd;cases hs
 refine call_meets F.slot_list_index ⟨_,ho,rfl⟩ F.entry_list_index (F.args_list_index_2 _ _) (SeqAt.list_indexAt l its.toArray n none slots u (eqU y) j (by rw[List.size_toArray];omega) ?_ ?_ ?_) ⟨ho,λw hw=>VB ry fy r fs w (by simpa using hw),?_⟩
 ·have:sizeLine<2^63-1:=by decide
  omega
 ·rw[ge j z hz];exact ez
 ·intro m hm' hlt
  rw[ge m xs[m] (List.getElem?_eq_getElem (by omega))]
  exact hm m _ hlt (List.getElem?_eq_getElem (by omega))
 ·exact⟨.int (j:Int),H,I.tok _,⟨_,rfl⟩,q⟩
end
section
variable {α:Type}[DecidableEq α]{r:Enc α}{d:Nat}
end
section
variable {X:Cx}{o e f:Expr}{td ty tx:TE}{apos cpos:Pos}
end
theorem Zj:∀(names:List (Str×NameKind)) (n:Nat) (acc:List (Str×Addr)) {x:Str},(x,NameKind.cell)∉names->(cellsFrom n names acc).lookup x=acc.lookup x
 | [],_,_,_,_=>rfl
 | (y,k)::r,n,acc,x,h=>by
  have hr:(x,NameKind.cell)∉r:=λz=>h (List.mem_cons_of_mem _ z)
  unfold cellsFrom
  split
  ·rename_i hk
   have hk':k=NameKind.cell:=by simpa using hk
   rw[Zj r _ _ hr,List.lookup_cons]
   have:(x==y)=false:=beq_eq_false_iff_ne.mpr λe=>h (by rw[e,hk'];exact List.mem_cons_self)
   rw[this]
  ·exact Zj r _ _ hr
theorem Qm:∀(names:List (Str×NameKind)) (n:Nat) (acc:List (Str×Addr)) {x:Str}{c:Addr},(x,NameKind.cell)∈names->(cellsFrom n names acc).lookup x=some c->n<=c
 | [],_,_,_,_,h,_=>nomatch h
 | (y,k)::r,n,acc,x,c,h,e=>by
  unfold cellsFrom at e
  split at e
  ·by_cases hr:(x,NameKind.cell)∈r
   ·exact Nat.le_of_succ_le (Qm r _ _ hr e)
   ·rw[Zj r _ _ hr,List.lookup_cons] at e
    rcases List.mem_cons.mp h with h |h
    ·have hx:x=y:=congrArg Prod.fst h
     rw[hx,beq_self_eq_true] at e
     exact Nat.le_of_eq (Option.some.inj e)
    ·exact absurd h hr
  ·rename_i hk
   rcases List.mem_cons.mp h with h |h
   ·exact absurd (by simpa using (congrArg Prod.snd h).symm) hk
   ·exact Qm r _ _ h e
theorem Qv:∀(names:List (Str×NameKind)) (n:Nat) (acc:List (Str×Addr)) {x:Str},((x,NameKind.cell)∈names∨∃c,acc.lookup x=some c)->∃c,(cellsFrom n names acc).lookup x=some c
 | [],_,_,_,h=>h.elim (λz=>nomatch z) id
 | (y,k)::r,n,acc,x,h=>by
  unfold cellsFrom
  split
  ·refine Qv r _ _ ?_
   by_cases hx:x=y
   ·subst hx;exact .inr ⟨n,by rw[List.lookup_cons];simp⟩
   ·rcases h with h | ⟨c,h⟩
    ·rcases List.mem_cons.mp h with h |h
     ·exact absurd (congrArg Prod.fst h) hx
     ·exact .inl h
    ·exact .inr ⟨c,by rw[List.lookup_cons,beq_eq_false_iff_ne.mpr hx];exact h⟩
  ·rename_i hk
   refine Qv r _ _ ?_
   rcases h with h |h
   ·rcases List.mem_cons.mp h with h |h
    ·exact absurd (by simpa using (congrArg Prod.snd h).symm) hk
    ·exact .inl h
   ·exact .inr h
theorem Qo:∀(names:List (Str×NameKind)) (n:Nat) (acc:List (Str×Addr)),(∀x y c,acc.lookup x=some c->acc.lookup y=some c->x=y)->(∀x c,acc.lookup x=some c->c<n)->
  ∀x y c,(cellsFrom n names acc).lookup x=some c->(cellsFrom n names acc).lookup y=some c->x=y
 | [],_,_,h,_=>h
 | (z,k)::r,n,acc,h,hl=>by
  unfold cellsFrom
  split
  ·refine Qo r (n+1) _ (λx y c h1 h2=>?_) λx c h1=>?_
   ·rw[List.lookup_cons] at h1 h2
    cases hx:x==z<;> cases hy:y==z<;> rw[hx] at h1<;> rw[hy] at h2<;> simp only at h1 h2
    ·exact h x y c h1 h2
    ·cases h2;exact absurd (hl x n h1) (Nat.lt_irrefl _)
    ·cases h1;exact absurd (hl y n h2) (Nat.lt_irrefl _)
    ·rw[beq_iff_eq.mp hx,beq_iff_eq.mp hy]
   ·rw[List.lookup_cons] at h1
    cases hx:x==z<;> rw[hx] at h1<;> simp only at h1
    ·exact Nat.lt_succ_of_lt (hl x c h1)
    ·cases h1;exact Nat.lt_succ_self _
  ·exact Qo r n acc h hl
theorem Z4:∀(names:List (Str×NameKind)) (h:Heap) (acc:List (Str×Addr)) {x:Str}{c:Addr},(cellsFrom h.objs.size names acc).lookup x=some c->acc.lookup x=some c∨((pushCells h names).IsCell c none/\h.objs.size<=c)
 | [],_,_,_,_,e=>.inl e
 | (z,k)::r,h,acc,x,c,e=>by
  unfold cellsFrom at e
  unfold pushCells
  split at e
  ·rename_i hk
   rw[if_pos hk]
   have e':(cellsFrom (h.push {cls:=.type "cell",data:=.cell none}).objs.size r ((z,h.objs.size)::acc)).lookup x=some c:=by rw[Heap.size_push];exact e
   rcases Z4 r _ _ e' with q | ⟨q1,q2⟩
   ·rw[List.lookup_cons] at q
    cases hx:x==z<;> rw[hx] at q<;> simp only at q
    ·exact .inl q
    ·cases q
     exact .inr ⟨⟨_,pushCells_keeps _ _ _ _ (Heap.get?_push_size _ rfl),rfl⟩,Nat.le_refl _⟩
   ·exact .inr ⟨q1,by rw[Heap.size_push] at q2;omega⟩
  ·rename_i hk
   rw[if_neg hk]
   exact Z4 r h acc e
theorem U4:∀{l:List (Str×NameKind)}{x:Str}{j k:NameKind},(l.map (·.1)).Nodup->(x,j)∈l->(x,k)∈l->j≠k->False
 | [],_,_,_,_,h,_,_=>nomatch h
 | (y,i)::r,x,j,k,hn,h1,h2,ne=>by
  rw[List.map_cons,List.nodup_cons] at hn
  rcases List.mem_cons.mp h1 with h1 |h1<;> rcases List.mem_cons.mp h2 with h2 |h2
  ·cases h1;cases h2;exact ne rfl
  ·cases h1;exact hn.1 (List.mem_map.mpr ⟨_,h2,rfl⟩)
  ·cases h2;exact hn.1 (List.mem_map.mpr ⟨_,h1,rfl⟩)
  ·exact U4 hn.2 h1 h2 ne
theorem QD {env:Env}:∀{names:List (Str×NameKind)}{x:Str}{k:NameKind},
  (names.map λ(n,k)=>if(k==NameKind.free&&env.scope.kind== .function&&env.kindOf n==some .cell) then(n,NameKind.cell) else(n,k)).lookup x=some k->(k= .cell∨k= .free)->(x,NameKind.free)∈names∨(x,NameKind.cell)∈names
 | [],_,_,h,_=>by simp at h
 | (n,kk)::r,x,k,h,hk=>by
  have ih:=@QD env r x k
  simp only[List.map_cons] at h
  have up:((x,NameKind.free)∈r∨(x,NameKind.cell)∈r)->((x,NameKind.free)∈(n,kk)::r∨(x,NameKind.cell)∈(n,kk)::r):=λz=>z.elim (λz=>.inl (List.mem_cons_of_mem _ z)) λz=>.inr (List.mem_cons_of_mem _ z)
  by_cases hcond:(kk==NameKind.free&&env.scope.kind== .function&&env.kindOf n==some .cell)=true
  ·rw[if_pos hcond,List.lookup_cons] at h
   have hfree:kk=NameKind.free:=by
    rw[Bool.and_eq_true,Bool.and_eq_true] at hcond
    simpa using hcond.1.1
   cases hx:x==n with
   |true=>
    have:x=n:=by simpa using hx
    subst this;subst hfree
    exact .inl List.mem_cons_self
   |false=>rw[hx] at h;exact up (ih h hk)
  ·rw[if_neg hcond,List.lookup_cons] at h
   cases hx:x==n with
   |true=>
    rw[hx] at h
    have hkk:kk=k:=Option.some.inj h
    have:x=n:=by simpa using hx
    subst this;subst hkk
    rcases hk with z |z
    ·subst z;exact .inr List.mem_cons_self
    ·subst z;exact .inl List.mem_cons_self
   |false=>rw[hx] at h;exact up (ih h hk)
theorem Dt {M:Model}{A:Around}{E:Value->Shared->Prop}{s:Shared}{scope:Scope}{globals:Addr}{cl:List (Str×Addr)}{qual:Str}{outer:Env}{Q:Env->Shared->Prop}
  (hQ:∀h',h'.Ns s.heap.objs.size (λ_=>none)->(∀b o,s.heap.get? b=some o->h'.get? b=some o)->
   (∀x c,(cellsFrom (s.heap.objs.size+1) scope.names cl).lookup x=some c->cl.lookup x=some c∨(h'.IsCell c none/\s.heap.objs.size+1<=c))->
   Q (newEnv scope s.heap.objs.size globals (cellsFrom (s.heap.objs.size+1) scope.names cl) qual none .none (some outer) builtinsNs) {s with heap:=h'}):
  wpAny M A (newFunctionEnv scope globals cl [] qual none .none (some outer)) Q E s:=by
 simp only[newFunctionEnv,Option.isSome_some,if_true]
 refine wpAny_bind (wpAny_alloc ?_)
 refine wpAny_bind (wpAny_layCells _ (λname kind cells=>by cases hkc:kind==NameKind.cell<;> simp[hkc]) _ _ _ _ ?_)
 rw[show({s with heap:=s.heap.push {cls:=.type "dict",data:=.dict #[]}}:Shared).heap.objs.size=s.heap.objs.size+1 from Heap.size_push ..]
 rw[List.forIn_nil]
 refine wpAny_bind (wpAny_pure (wpAny_pure (hQ _ ((Heap.Ns.new s.heap (.type "dict")).keeps (pushCells_keeps _ _)) (λb o e=>pushCells_keeps _ _ b o (Heap.get?_push_of_some _ e)) λx c e=>?_)))
 have e':(cellsFrom (s.heap.push {cls:=.type "dict",data:=.dict #[]}).objs.size scope.names cl).lookup x=some c:=by rw[Heap.size_push];exact e
 rcases Z4 scope.names _ cl e' with q | ⟨q1,q2⟩
 ·exact .inl q
 ·exact .inr ⟨q1,by rw[Heap.size_push] at q2;exact q2⟩
noncomputable def VN (sc scope:Scope)(N0 tns:List Str)(caps:List (Nat×Str)):Bool:=
 scope.kind== .function&&decide (scope.names.map (·.1)).Nodup&&scope.names.all (λy=>!(y.2== .local) || scope.names.lookup y.1==some .local)&&
 scope.names.all (λy=>!(y.2== .free) || (sc.names.lookup y.1==some .cell || sc.names.lookup y.1==some .free))&&caps.all (λp=>N0[p.1]?==some p.2&&(sc.names.lookup p.2==some .cell || sc.names.lookup p.2==some .free)&&scope.names.lookup p.2==some .free)
noncomputable abbrev Cx.compN (X:Cx)(N:List Str)(scope:Scope)(cl:List (Str×Addr))(C:Addr)(s:Shared)(H:Hp)(ex:List Addr)(E:Value->Shared->Prop):Cx:=
 {X.comp N scope cl C s H ex E with fn:=λx=>scope.names.lookup x==some .cell}
noncomputable def Oe (scope sc:Scope):Scope:=
 {scope with names:=scope.names.map λ(n,k)=>if(k== .free&&sc.kind== .function&&sc.names.lookup n==some .cell) then(n, .cell) else(n,k)}
section
variable {X:Cx}{elt tg iter:Expr}{ifs:List Expr}{scope sc:Scope}{pos:Pos}{n:Nat}{tns:List Str}{caps:List (Nat×Str)}{wi:TI}{g:TG}{tt:TT}{te:TE}
theorem G8 {N0:List Str}(hc:X.calm=true)(hsc:X.env.scope=sc)(hN0:X.N=N0)(ok:VN sc scope N0 tns caps=true)(hn:tns.length=n)(hG:JS n g)
  (hb:∀cl C s H ex E,PG (X.compN (tns++caps.map (·.2)) scope cl C s H ex E) tg g/\PTs (X.compN (tns++caps.map (·.2)) scope cl C s H ex E) ifs tt/\PE (X.compN (tns++caps.map (·.2)) scope cl C s H ex E) elt te)
  {pins:List (Addr×Obj)}{σ:St}{H:Hp}{s:Shared}{J:It}{fp:List Addr}{it:Addr}{tn:Nat->Heap->Prop}{cl:List (Str×Addr)}{Q:V->Hp->Prop}{RR:Value->Addr->Result->Shared->Prop}
  (I:Inv X pins σ H s)(T:Turn X.prog X.w X.K tg J fp it tn)(t0:tn 0 s.heap)(hf:∀b∈fp,GE X pins H b)
  (hsub:∀x c,cl.lookup x=some c->X.env.cells.lookup x=some c)(hall:∀x,(x,NameKind.free)∈scope.names->∃c,cl.lookup x=some c)
  (W:Nat->Nat->List V->Hp->Prop){m0:Nat}(w0:W 0 m0 [] H)
  (turn:Hd g tt te (ZA n caps σ) Q J W)
  (hRR:∀D C ys H3 s',CompEnd X pins σ H3 D C ys s'->Q (.ref D) (upd H3 D (.lst ys))->RR (.ref D) C (.ok .next) s'){E:Value->Shared->Prop}:
  wpAny (model X.prog X.w) X.A (newList []) (λacc s₃=>wpAny (model X.prog X.w) X.A (newFunctionEnv scope X.env.globals cl [] X.env.qual none .none (some X.env)) (λcenv s₄=>
   codeAny (model X.prog X.w) X.A (.compStart (.ListComp elt [⟨tg,iter,ifs,0⟩] scope pos) 0 (.ref it) acc {cenv with scope:=relabel scope X.env}) (RR acc cenv.locals) s₄) E s₃) E s:=by
 subst hsc
 subst hN0
 unfold VN at ok
 simp only[Bool.and_eq_true,List.all_eq_true] at ok
 obtain⟨⟨⟨⟨ok1,ok2⟩,ok3⟩,ok4⟩,ok5⟩:=ok
 have hkind:scope.kind= .function:=by simpa using ok1
 have hnd:(scope.names.map (·.1)).Nodup:=by simpa using ok2
 refine wpAny_newObj_type (Dt (λh₁ hns₁ hsb₁ hc₁=>?_))
 dsimp only at hns₁ hsb₁ hc₁⊢
 generalize hH2:s.heap.push {cls:=.type "list",dict:=none,data:=.seq ([]:List Value).toArray}=H2 at hns₁ hsb₁ hc₁⊢
 have hC:H2.objs.size=s.heap.objs.size+1:=by rw[←hH2,Heap.size_push]
 have hDC:s.heap.objs.size≠H2.objs.size:=by rw[hC];exact Nat.ne_of_lt (Nat.lt_succ_self _)
 have hCle:s.heap.objs.size<=H2.objs.size:=by rw[hC];exact Nat.le_succ _
 have below:∀b,b<s.heap.objs.size->b≠H2.objs.size/\b≠s.heap.objs.size:=λb hb=>⟨by rw[hC];exact Nat.ne_of_lt (Nat.lt_succ_of_lt hb),Nat.ne_of_lt hb⟩
 have old:∀b o,s.heap.get? b=some o->h₁.get? b=some o:=λb o e=>hsb₁ b o (hH2▸Heap.get?_push_of_some _ e)
 have hacc:h₁.get? s.heap.objs.size=some {cls:=.type "list",data:=.seq ([]:List Value).toArray 0}:=hsb₁ _ _ (hH2▸Heap.get?_push_size _ rfl)
 have hst₁:tn 0 h₁:=T.keep _ _ _ t0 λb _ o e=>old b o e
 have cf2:∀x,(x,NameKind.free)∈scope.names->∃c,(cellsFrom (H2.objs.size+1) scope.names cl).lookup x=some c/\cl.lookup x=some c:=λx hx=>by
  obtain⟨c,hc⟩:=hall x hx
  exact⟨c,by rw[Zj scope.names _ _ (λhm=>U4 hnd hx hm (by decide))];exact hc,hc⟩
 have cf3:∀x,(x,NameKind.cell)∈scope.names->∃c,(cellsFrom (H2.objs.size+1) scope.names cl).lookup x=some c:=λx hx=>Qv scope.names _ _ (.inl hx)
 have cf4:∀x y c,(cellsFrom (H2.objs.size+1) scope.names cl).lookup x=some c->(cellsFrom (H2.objs.size+1) scope.names cl).lookup y=some c->x=y:=
  Qo scope.names _ _ (λx y c h1 h2=>I.ok.inj x y c (hsub x c h1) (hsub y c h2)) (λx c e=>by
   obtain⟨v,z⟩:=I.cell x c (hsub x c e)
   exact Nat.lt_of_lt_of_le z.lt (by rw[hC];omega))
 have cf5:∀x c,scope.names.lookup x=some NameKind.cell->(cellsFrom (H2.objs.size+1) scope.names cl).lookup x=some c->H2.objs.size+1<=c:=λx c hx e=>Qm scope.names _ _ (PySem.mem_of_lookup hx) e
 generalize hcl:cellsFrom (H2.objs.size+1) scope.names cl=cl' at*
 -- addresses
 generalize hD:s.heap.objs.size=D at*
 generalize hCe:H2.objs.size=C at*
 have fpLt:∀b∈fp,b<D:=λb hb=>by
  obtain⟨o,e,_⟩:=T.obj _ _ t0 b hb
  rw[←hD];exact Heap.lt_size e
 have hDlt:D<C:=by omega
 have cellNe:∀x c,cl'.lookup x=some c->c≠D:=λx c e=>by
  rcases hc₁ x c e with q | ⟨_,q⟩
  ·obtain⟨v,z⟩:=I.cell x c (hsub x c q)
   rw[←hD];exact Nat.ne_of_lt z.lt
  ·exact Nat.ne_of_gt (Nat.lt_trans hDlt (Nat.lt_of_succ_le q))
 have fpNe:∀b∈fp,∀x c,cl'.lookup x=some c->c≠b:=λb hb x c e=>by
  rcases hc₁ x c e with q | ⟨_,q⟩
  ·exact(hf b hb).2.2.2.2.1 x c (hsub x c q)
  ·exact Nat.ne_of_gt (Nat.lt_trans (fpLt b hb) (Nat.lt_trans hDlt (Nat.lt_of_succ_le q)))
 let X':Cx:=X.compN (tns++caps.map (·.2)) scope cl' C s H fp (notedBy (model X.prog X.w) X.A (compEnvC scope cl' C X.env) λe s'=>RR (.ref D) C (.error e) s')
 have okX:X'.Ok:=by
  refine⟨I.ok.mod,hkind,I.ok.glob,I.ok.blt,by show s.heap.objs.size<=C;omega,cf4,λx hx=>?_,λx c hx hcx=>(by show s.heap.objs.size<=c;have:=cf5 x c (by have hx2:(scope.names.lookup x==some NameKind.cell)=true:=hx;simpa using hx2) hcx;omega),I.ok.hd,I.ok.frames, .inl rfl,λb hb=>?_,I.bs,Nat.le_trans I.ok.bsz I.sz,λb o e hb=>?_,λb hb hz=>?_,I.stack,I.stkFree⟩
  ·have hx':(relabel scope X.env).names.lookup x=some .cell∨(relabel scope X.env).names.lookup x=some .free:=hx
   have hz:(x,NameKind.free)∈scope.names∨(x,NameKind.cell)∈scope.names:=by
    rcases hx' with z |z
    ·exact QD z (.inl rfl)
    ·exact QD z (.inr rfl)
   rcases hz with z |z
   ·obtain⟨c,q,_⟩:=cf2 x z
    exact⟨c,q⟩
   ·exact cf3 x z
  ·refine⟨Nat.ne_of_lt (Nat.lt_trans (fpLt b hb) hDlt),fpNe b hb⟩
  ·rcases(hf b hb).2.2.2.1 with z |z
   ·exact I.ok.noex b o e z
   ·exact absurd (Nat.lt_of_lt_of_le (Heap.lt_size e) (Nat.le_trans I.ok.bsz z)) (Nat.lt_irrefl _)
  ·rcases List.mem_cons.mp (I.stkSub b hz) with z |z
   ·exact(hf b hb).2.1 z
   ·exact(hf b hb).2.2.1 z
 have lenc:(ZA n caps σ).length=(tns++caps.map (·.2)).length:=by unfold ZA;simp[hn]
 have I1:∀tk,Inv X' [] (ZA n caps σ) H {s with heap:=h₁,toks:=tk}:=λtk=>by
  refine⟨okX,rfl,I.bare,Un.kept old,⟨_,hns₁,λi x v e1 e2 e3=>?_⟩,λx c e=>?_,I.hok.fresh (by rw[hD];exact Nat.le_of_lt hDlt),λx c e=>?fc,λp hp=>absurd (show p∈([]:List (Addr×Obj)) from hp) (by simp),I.hok.kept old,lenc⟩
  ·have hi:n<=i:=by
    by_cases h:n<=i
    ·exact h
    ·have e2':(ZA n caps σ)[i]?=some (some v):=e2
     unfold ZA at e2'
     rw[List.getElem?_append_left (by simp;omega),List.getElem?_replicate] at e2'
     split at e2'<;> cases e2'
   have e2':(ZA n caps σ)[i]?=some (some v):=e2
   unfold ZA at e2'
   rw[List.getElem?_append_right (by simpa using hi),List.length_replicate,List.getElem?_map] at e2'
   have e1':(tns++caps.map (·.2))[i]?=some x:=e1
   rw[List.getElem?_append_right (by rw[hn];exact hi),hn,List.getElem?_map] at e1'
   cases hcp:caps[i-n]? with
   |none=>rw[hcp] at e2';cases e2'
   |some p=>
    rw[hcp] at e2' e1'
    simp only[Option.map_some,Option.some.injEq] at e2' e1'
    have hp5:=ok5 p (List.mem_of_getElem? hcp)
    simp only[beq_iff_eq,Bool.or_eq_true] at hp5
    obtain⟨⟨p1,p2⟩,p3⟩:=hp5
    have hσ:σ[p.1]?=some (some v):=by
     cases hq:σ[p.1]? with
     |none=>rw[hq] at e2';cases e2'
     |some o=>rw[hq] at e2';simp at e2';rw[e2']
    subst e1'
    obtain⟨m,hm,hl⟩:=I.loc
    obtain⟨u,r,l⟩:=hl p.1 p.2 v p1 hσ (.inr p2)
    refine⟨u,r, .inr ?_⟩
    rcases l with⟨k,_⟩ | ⟨k,c,e,z⟩
    ·have k':X.env.scope.names.lookup p.2=some .local:=k
     rcases p2 with p2 |p2<;> (rw[p2] at k';cases k')
    ·obtain⟨c',e',e''⟩:=cf2 p.2 (PySem.mem_of_lookup p3)
     have:=hsub _ _ e''
     rw[e] at this;cases this
     obtain⟨o,ho,hd⟩:=z
     exact⟨QF (env:=X.env) p3,c,e',⟨o,old _ _ ho,hd⟩⟩
  ·rcases hc₁ x c e with q | ⟨q,_⟩
   ·obtain⟨v,o,ho,hd⟩:=I.cell x c (hsub x c q)
    exact⟨v,o,old _ _ ho,hd⟩
   ·exact⟨_,q⟩
  case fc=>
   rcases hc₁ x c e with q | ⟨_,q⟩
   ·exact I.freeC x c (hsub x c q)
   ·exact I.hok.fresh (by rw[hD];omega)
 obtain⟨hg,ht,he⟩:=hb cl' C s H fp X'.xe
 have fsLt:∀b∈X'.fs,b<D:=λb hb=>by
  obtain⟨_,o,ho,_⟩:=I.stack.mem hb
  rw[←hD];exact Heap.lt_size ho
 have aY:CAt X' fp D:=⟨hc,rfl,Nat.ne_of_lt hDlt,λhz=>absurd (fsLt _ hz) (Nat.lt_irrefl _),by show s.heap.objs.size<=D;omega,cellNe,λb hb=>Nat.ne_of_lt (fpLt b hb),λb hb H' h'=>⟨h',Nat.ne_of_lt (Nat.lt_trans (fpLt b hb) hDlt),okX.exfs b hb, .inl hb,fpNe b hb,λp hp=>Gq (α:=Addr×Obj) hp⟩⟩
 have loop:∀s₃:Shared,(∃tk,s₃={s with heap:=h₁,toks:=tk})->
   codeAny (model X.prog X.w) X.A (.compLoop (.ListComp elt [⟨tg,iter,ifs,0⟩] scope pos) 0 (.ref it) (.ref D) (compEnvC scope cl' C X.env)) (RR (.ref D) C) s₃:=by
  rintro s₃ ⟨tk,rfl⟩
  exact U3 (Y:=X') rfl T hG hg ht he aY (λj v e=>(V6 e).1) turn (λys its k H3 s4 I4 rv hz q=>hRR _ C ys H3 s4 (FV I hf (Nat.le_of_eq hD) hDlt I4 I4.os I4.base I4.hok rfl rv hz) q)
   (.mk 0 H [] [] 0 ⟨I1 tk,hst₁,λb hb=>(hf b hb).1,hacc,I.hok.fresh (by rw[hD];exact Nat.le_refl _)⟩ .nil w0)
 exact codeAny_compStart_list (loop _ ⟨_,rfl⟩) (T.self _ 0 _ _ _ hst₁ (loop _ ⟨_,rfl⟩))
theorem He (sc:Scope)(N0:List Str)(tns:List Str)(caps:List (Nat×Str))(hc:X.calm=true)(hi:PI X tg iter wi)(hG:JS tns.length g)
  (hb:∀cl C s H ex E,PG (X.compN (tns++caps.map (·.2)) scope cl C s H ex E) tg g/\PTs (X.compN (tns++caps.map (·.2)) scope cl C s H ex E) ifs tt/\PE (X.compN (tns++caps.map (·.2)) scope cl C s H ex E) elt te)
  (hsc:X.env.scope=sc:=by rfl)(hN0:X.N=N0:=by rfl)(ok:VN sc scope N0 tns caps=true:=by decide+kernel)
  (hs:∀x,foldedSetIterable iter X.env x=pure x:=by intro _;rfl):
  PE X (.ListComp elt [⟨tg,iter,ifs,0⟩] scope pos) (Fk tns.length caps wi g tt te):=by
 intro pins s σ H Q I h
 have ok':=ok
 unfold VN at ok'
 simp only[Bool.and_eq_true,List.all_eq_true] at ok'
 obtain⟨⟨⟨⟨ok1,ok2⟩,ok3⟩,ok4⟩,ok5⟩:=ok'
 obtain⟨cl,ecl,hsub,hall⟩:=Fh (scope:=scope) (env:=X.env) λx hx hfr=>by
  have:=ok4 x hx
  rw[hfr] at this
  have z:sc.names.lookup x.1=some .cell∨sc.names.lookup x.1=some .free:=by simpa using this
  exact I.ok.has x.1 (by show X.env.scope.names.lookup x.1=_∨X.env.scope.names.lookup x.1=_;rw[hsc];exact z)
 rw[eval_ListComp]
 refine wpAny_comprehension_free (use:=none) rfl hs ecl (by simpa using ok1) (λx hx hl=>by have:=ok3 x hx;rw[hl] at this;simpa using this) (thn (hi pins s σ H _ I h) λxv s₁ h₁=>thn h₁ λitv s₂ h₂=>?_)
 obtain⟨it,fp,tn,J,H',rfl,I2,T,st2,f2,W,⟨m0,w0⟩,turn⟩:=h₂
 refine G8 (RR:=λacc C=>compPost (model X.prog X.w) X.A X.xe none (EP X pins σ Q) acc C) hc hsc hN0 ok rfl hG hb I2 T st2 f2 hsub hall W w0 turn ?_
 intro D C ys H3 s' ce q
 obtain⟨mm,hns⟩:=ce.ns
 refine⟨mm,hns,λh' hs'=>⟨.ref D,_,?_,rfl,q⟩⟩
 obtain⟨c0,c1,c2,c3,c4,c5⟩:=ce.fp
 exact ce.inv.turned (t':=s'.toks) (λb o hb' e=>(hs'.extBut b o hb' e)) c0 c1 c3 c4 c5
end
variable {X:Cx}
theorem Jx {l:List Expr}{p:Pos}{es:List Expr}{env:Env}:starEach (.List l p::es) env=(false,eval (.List l p) env)::starEach es env:=rfl
theorem KW {X:Cx}(K:PySem.W.Frag)(h:X.K=K):MtR X "list.index" (Ek K):=by subst h;exact HR
variable {X:Cx}{o e:Expr}{es:List Expr}{to:TE}{t:TA}{name:Str}{apos cpos:Pos}{T id:String}{r:V->List V->Hp->VK->Prop}
theorem Nz (K:PySem.W.Frag)(hK:X.K=K)(pa:PlainAttrs T)(slot:Slot T name id)(hty:typeOf (.builtin id)=pure (.type "method_descriptor"))(hm:MtR X id r)(ho:PE X o to)(ha:PA X (e::es) t)
  (hbase:attributeBase o name X.env (eval o X.env)=eval o X.env:=by rfl)
  (hfew:((backTo cpos (starEach (e::es) X.env)).all (λx=>!x.1)&&(backToKw cpos (keywordEach [] X.env)).all (λx=>x.1.isSome)
   &&decide ((e::es).length+([]:List Keyword).length+(if([]:List Keyword).isEmpty then 0 else 1)<30))=true:=by rfl)
  (hline:(apos.endLine==cpos.line)=true:=by rfl)(hs:starEach (e::es) X.env=(false,eval e X.env)::starEach es X.env:=by rfl)(hplain:(backTo cpos (starEach es X.env)).any (·.1)=false:=by rfl):
  PE X (.Call (.Attribute o name apos) (e::es) [] cpos) (tBM K T r to t):=by
 subst hK
 exact ZP pa slot hty hm ho ha hbase hfew hline hs hplain
end L2
namespace PySem
open PySem.Spec
namespace SeqAt
open MeetsSeq
end SeqAt
end PySem
namespace L2
open PySem PySem.Spec PyProof.Rows
section
variable {X:Cx}
end
noncomputable def OR (K:PySem.W.Frag):List V->Hp->VK->Prop:=λxs H Q=>∃ (a:Addr) (bs:List Bool),xs=[.ref a]/\SqL K H a (bs.map V.bl)/\Q (.bl (bs.all id)) H
section
variable {X:Cx}
theorem NH:∀(bs:List Bool),((List.range bs.length).all λi=>(bs[i]?).getD true)=bs.all id:=λbs=>by
 rw[Bool.eq_iff_iff,List.all_eq_true,List.all_eq_true]
 constructor
 ·intro h b hb
  obtain⟨i,hi,rfl⟩:=List.getElem_of_mem hb
  have:=h i (List.mem_range.mpr hi)
  simpa[List.getElem?_eq_getElem hi] using this
 ·intro h i hi
  have hi':=List.mem_range.mp hi
  simpa[List.getElem?_eq_getElem hi'] using h _ (List.getElem_mem hi')
theorem Gd (hc:X.calm=true):QK X (.builtin "all") (OR X.K):=by
 intro pins s σ H xs us Q I r h
 obtain⟨a,bs,rfl,hq,q⟩:=h
 obtain⟨u,rfl,ru⟩:=DC r
 cases ru
 obtain⟨its,rv,pl,hz⟩:=I.list hq
 have hlen:bs.length=its.length:=by have:=rv.length;rwa [List.length_map] at this
 have hlt:a<s.heap.objs.size:=by obtain⟨o,n,ho,_⟩:=pl;exact Heap.lt_size ho
 refine call_all_walk (wpAny_pyIter_list pl.isList ?_)
 refine⟨s.heap.objs.size,[s.heap.objs.size,a],[s.heap.objs.size],its.toArray.size,_,_,λi=>(bs[i]?).getD true,rfl,Walks.list (A:=X.A.in1) (I.ok.hd hc) _ a (Nat.ne_of_lt hlt) its.toArray,
  ⟨⟨_,Heap.get?_push_size _ rfl,rfl,rfl⟩,pl.isList.at λo e=>Heap.get?_push_of_some _ e⟩,λi v s' Q' E' hP hQ=>?_,λh' tk hk=>?_⟩
 ·have hv':its[i]?=some v:=by simpa using hP
  obtain⟨x,ex,rx⟩:=Kj rv hv'
  rw[List.getElem?_map] at ex
  cases e:bs[i]? with
  |none=>rw[e] at ex;cases ex
  |some z=>
   rw[e] at ex
   have ex':V.bl z=x:=Option.some.inj ex
   subst ex'
   cases rx
   simp only[e,Option.getD_some] at hQ
   exact wpAny_truthy_bool hQ
 ·have e:((List.range its.toArray.size).all λi=>(bs[i]?).getD true)=bs.all id:=by
   rw[List.size_toArray, ←hlen];exact NH bs
  rw[e]
  have I2:Inv X pins σ H {s with heap:=h',toks:=tk}:=I.kept (t':=tk) λb o e=>hk b o (λhm=>by
   rw[List.mem_singleton.mp hm] at e
   exact absurd (Heap.lt_size e) (Nat.lt_irrefl _)) (Heap.get?_push_of_some _ e)
  exact⟨.bl (bs.all id),H,I2,rfl,q⟩
end
section
variable {X:Cx}{α:Type}[DecidableEq α]{r:Enc α}{d:Nat}
end
section
variable {X:Cx}
end
section
variable {X:Cx}
variable {T:String}{name:Str}{id:String}{r:V->List V->Hp->VK->Prop}{o e:Expr}{es:List Expr}{to:TE}{t:TA}{apos cpos:Pos}
theorem Ig {K:PySem.W.Frag}(hK:X.K=K)(pa:PlainAttrs T)(slot:Slot T name id)(hty:typeOf (.builtin id)=pure (.type "method_descriptor"))(hm:MtR X id r)(ho:PE X o to)(ha:PA X (e::es) t)
  (hbase:attributeBase o name X.env (eval o X.env)=eval o X.env:=by rfl)
  (hfew:((backTo cpos (starEach (e::es) X.env)).all (λx=>!x.1)&&(backToKw cpos (keywordEach [] X.env)).all (λx=>x.1.isSome)
   &&decide ((e::es).length+([]:List Keyword).length+(if([]:List Keyword).isEmpty then 0 else 1)<30))=true:=by rfl)
  (hline:(apos.endLine==cpos.line)=true:=by rfl)(hs:starEach (e::es) X.env=(false,eval e X.env)::starEach es X.env:=by rfl)(hplain:(backTo cpos (starEach es X.env)).any (·.1)=false:=by rfl):
  PE X (.Call (.Attribute o name apos) (e::es) [] cpos) (tBM K T r to t):=Nz K hK pa slot hty hm ho ha hbase hfew hline hs hplain
end
section
variable {X:Cx}{elt tg iter:Expr}{ifs:List Expr}{scope:Scope}{pos:Pos}{wi:TI}{g:TG}{tt:TT}{te:TE}
theorem F6 {sc:Scope}{N0:List Str}{tns:List Str}{caps:List (Nat×Str)}(hc:X.calm=true)(hi:PI X tg iter wi)(hG:JS tns.length g)
  (hb:∀cl C s H ex E,PG (X.compN (tns++caps.map (·.2)) scope cl C s H ex E) tg g/\PTs (X.compN (tns++caps.map (·.2)) scope cl C s H ex E) ifs tt/\PE (X.compN (tns++caps.map (·.2)) scope cl C s H ex E) elt te)
  (hsc:X.env.scope=sc:=by rfl)(hN0:X.N=N0:=by rfl)(ok:VN sc scope N0 tns caps=true:=by decide+kernel)
  (hs:∀x,foldedSetIterable iter X.env x=pure x:=by intro _;rfl):
  PE X (.ListComp elt [⟨tg,iter,ifs,0⟩] scope pos) (Fk tns.length caps wi g tt te):=He sc N0 tns caps hc hi hG hb hsc hN0 ok hs
theorem Yp {sc:Scope}{N0:List Str}{tns:List Str}{caps:List (Nat×Str)}(hc:X.calm=true)(hi:PI X tg iter wi)(hG:JS tns.length g)
  (hb:∀cl C s H ex E,PG (X.comp (tns++caps.map (·.2)) scope cl C s H ex E) tg g/\PTs (X.comp (tns++caps.map (·.2)) scope cl C s H ex E) ifs tt/\PE (X.comp (tns++caps.map (·.2)) scope cl C s H ex E) elt te)
  (hsc:X.env.scope=sc:=by rfl)(hN0:X.N=N0:=by rfl)(ok:K0 sc scope N0 tns caps=true:=by decide+kernel)
  (hs:∀x,foldedSetIterable iter X.env x=pure x:=by intro _;rfl):
  PE X (.ListComp elt [⟨tg,iter,ifs,0⟩] scope pos) (Fk tns.length caps wi g tt te):=Mf sc N0 tns caps hc hi hG hb hsc hN0 ok hs
end
section
variable {X:Cx}{tg l:Expr}{tl:TE}{p pos:Pos}{K:PySem.W.Frag}
theorem XG (h:X.K=K)(hl:PE X l tl):PI X tg l (LS K tl):=by subst h;exact LM hl
end
noncomputable def Gg:List Int->Int
 | []=>0
 |a::r=>r.foldl max a
theorem F5 (ns:List Int):∀k,k<ns.length->ns.getD (argBest (λi j=>decide (ns.getD i 0 > ns.getD j 0)) k) 0=Gg (ns.take (k+1))
 |0,h=>by
  cases ns with
  |nil=>simp at h
  |cons a r=>simp[argBest,Gg]
 |k+1,h=>by
  have ih:=F5 ns k (by omega)
  have e:Gg (ns.take (k+1+1))=max (Gg (ns.take (k+1))) (ns.getD (k+1) 0):=by
   rw[List.take_succ_eq_append_getElem h]
   cases ns with
   |nil=>simp at h
   |cons a r=>
    rw[List.take_succ_cons]
    simp only[Gg,List.cons_append,List.foldl_append,List.foldl_cons,List.foldl_nil]
    rw[List.getD_eq_getElem?_getD,List.getElem?_eq_getElem h]
    rfl
  rw[e, ←ih]
  show ns.getD (if(decide (ns.getD (k+1) 0 > ns.getD (argBest _ k) 0))=true then k+1 else argBest _ k) 0=_
  by_cases hc:ns.getD (k+1) 0 > ns.getD (argBest (λi j=>decide (ns.getD i 0 > ns.getD j 0)) k) 0
  ·rw[if_pos (by simpa using hc)];omega
  ·rw[if_neg (by simpa using hc)];omega
section
variable {X:Cx}
theorem EM {its:List Value}{ns:List Int}(rv:Ys (ns.map V.int) its):∀(i:Nat) (v:Value),its.toArray[i]?=some v->∃t,v=Value.int (ns.getD i 0) t:=λi v hv=>by
 have hv':its[i]?=some v:=by simpa using hv
 obtain⟨x,ex,rx⟩:=Kj rv hv'
 rw[List.getElem?_map] at ex
 cases e:ns[i]? with
 |none=>rw[e] at ex;cases ex
 |some z=>
  rw[e] at ex
  have ex':V.int z=x:=Option.some.inj ex
  subst ex'
  obtain⟨t,rfl⟩:=rx
  exact⟨t,by simp[List.getD,e]⟩
noncomputable def M4 (K:PySem.W.Frag)(f:List Int->Int):List V->Hp->VK->Prop:=λxs H Q=>∃ (a:Addr) (ns:List Int),xs=[.ref a]/\SqT K H a (ns.map V.int)/\0<ns.length/\Q (.int (f ns)) H
theorem Bz (K:PySem.W.Frag)(hK:X.K=K)(hc:X.calm=true):QK X (.builtin "max") (M4 K Gg):=by
 subst hK
 intro pins s σ H xs us Q I r h
 obtain⟨a,ns,rfl,hq,hne,q⟩:=h
 obtain⟨u,rfl,ru⟩:=DC r
 cases ru
 obtain⟨its,rv,pl,hz⟩:=I.tuple hq
 have hlen:its.length=ns.length:=by have:=rv.length;simpa using this.symm
 have hlt:a<s.heap.objs.size:=by obtain⟨o,ho,_⟩:=pl;exact Heap.lt_size ho
 refine call_max_walk (wpAny_pyIter_tuple pl ?_)
 refine⟨s.heap.objs.size,_,_,_,_,_,_,rfl,Walks.tuple (prog:=X.prog) (w:=X.w) (A:=X.A.in1) (I.ok.hd hc) s.heap.objs.size a (Nat.ne_of_lt hlt) its.toArray,⟨⟨_,Heap.get?_push_size _ rfl,rfl,rfl⟩,(show s.heap.IsTuple a its.toArray from pl).at λo e=>Heap.get?_push_of_some _ e⟩,λb hb=>?_,by rw[List.size_toArray,hlen];exact hne,CmpOf.ints_gt (λi=>ns.getD i 0) (EM rv),λv h' tk hP hk=>?_⟩
 ·rcases List.mem_cons.mp hb with e |hb
  ·rw[e,Heap.size_push];exact Nat.lt_succ_self _
  ·rw[List.mem_singleton.mp hb,Heap.size_push];exact Nat.lt_succ_of_lt hlt
 ·have I2:Inv X pins σ H {s with heap:=h',toks:=tk}:=I.kept (t':=tk) λb o e=>hk b o (λhm=>by
   rw[List.mem_singleton.mp hm] at e
   exact absurd (Heap.lt_size e) (Nat.lt_irrefl _)) (Heap.get?_push_of_some _ e)
  obtain⟨t,rfl⟩:=EM rv _ _ hP
  refine⟨.int (Gg ns),H,I2,⟨t,?_⟩,q⟩
  rw[List.size_toArray,hlen,F5 ns (ns.length-1) (by omega),show ns.length-1+1=ns.length by omega,List.take_length]
end
inductive Pay where
 |non |int (i:Int) |tag (t:Str) (xs:List Int)
 deriving DecidableEq
structure Exc where
 cls:Str
 pay:Pay
inductive Rs (α:Type) where
 |bad |err (x:Exc) |ok (a:α)
noncomputable def Rs.bind {α β:Type}:Rs α->(α->Rs β)->Rs β
 | .bad,_=>.bad
 | .err x,_=>.err x
 | .ok a,f=>f a
theorem Rs.ok_bind {α β:Type}(a:α)(f:α->Rs β):(Rs.ok a).bind f=f a:=rfl
noncomputable def chk {α:Type}(c:Prop)[Decidable c](m:Rs α):Rs α:=if c then m else .bad
theorem XD {α:Type}{c:Prop}[Decidable c]{m:Rs α}(h:c):chk c m=m:=if_pos h
noncomputable abbrev XH:=Addr×HO
noncomputable def Mp:HO->Bool
 | .lst _=>true
 | .dK _=>true
 | .dT _=>true
 |_=>false
noncomputable def fl (OO:List (List XH)):List Addr:=OO.flatten.map (·.1)
open Classical in
noncomputable def hid (H:Hp)(OO:List (List XH)):Hp:=λb=>if b∈fl OO then none else H b
structure W (OO:List (List XH))(H:Hp):Prop where
 tr:∀c∈OO.flatten,H c.1=some c.2
 nd:(fl OO).Nodup
 mu:∀c∈OO.flatten,Mp c.2=true
theorem X5 {H:Hp}{OO}{b:Addr}{o:HO}(h:hid H OO b=some o):H b=some o/\b∉fl OO:=by
 unfold hid at h
 split at h
 ·cases h
 ·exact⟨h,by assumption⟩
theorem Zz {H:Hp}{OO}{b:Addr}{o:HO}(h:H b=some o)(n:b∉fl OO):hid H OO b=some o:=by
 unfold hid;rw[if_neg n];exact h
theorem Xx {H:Hp}{OO}:Xz (hid H OO) H:=λb o h=>(X5 h).1
theorem Xk {H H':Hp}{OO}(s:Xz H H'):Xz (hid H OO) (hid H' OO):=λb o h=>Zz (s _ _ (X5 h).1) (X5 h).2
theorem QL {H H':Hp}{OO OO'}(s:Xz H H')(h:∀b,b∈fl OO'->b∈fl OO):Xz (hid H OO) (hid H' OO'):=λb o q=>Zz (s _ _ (X5 q).1) λz=>(X5 q).2 (h b z)
theorem X4 {C:List XH}{OO}:fl (C::OO)=C.map (·.1)++fl OO:=by simp[fl]
theorem BB {OO}:fl ([]::OO)=fl OO:=by simp[fl]
theorem Zs {H:Hp}{OO}:hid H ([]::OO)=hid H OO:=by unfold hid;rw[BB]
theorem W.keep {OO}{H H':Hp}(w:W OO H)(s:Xz H H'):W OO H':=⟨λc hc=>s _ _ (w.tr c hc),w.nd,w.mu⟩
theorem W.of {OO OO':List (List XH)}{H:Hp}(w:W OO H)(h:OO'.flatten.Perm OO.flatten):W OO' H:=
 ⟨λc hc=>w.tr c (h.mem_iff.mp hc),(h.map _).nodup_iff.mpr w.nd,λc hc=>w.mu c (h.mem_iff.mp hc)⟩
theorem W.sub {OO OO':List (List XH)}{H:Hp}(w:W OO H)(h:OO'.flatten.Sublist OO.flatten):W OO' H:=
 ⟨λc hc=>w.tr c (h.mem hc),(h.map _).nodup w.nd,λc hc=>w.mu c (h.mem hc)⟩
theorem W.tail {C OO}{H:Hp}(w:W (C::OO) H):W OO H:=w.sub (by simp)
theorem W.nil {OO}{H:Hp}(w:W OO H):W ([]::OO) H:=w.of (by simp)
theorem W.cell {C OO}{H:Hp}(w:W (C::OO) H):∀c∈C,H c.1=some c.2:=λc hc=>w.tr c (by simp[hc])
theorem Vn {OO:List (List XH)}{c:XH}(h:c∈OO.flatten):c.1∈fl OO:=List.mem_map.mpr ⟨c,h,rfl⟩
theorem Bs {OO:List (List XH)}{b:Addr}(h:b∈fl OO):∃o,(b,o)∈OO.flatten:=by
 obtain⟨⟨a,o⟩,hc,rfl⟩:=List.mem_map.mp h
 exact⟨o,hc⟩
theorem W.fresh {OO}{H:Hp}(w:W OO H){p:Addr}(h:H p=none):p∉fl OO:=λz=>by
 obtain⟨o,ho⟩:=Bs z
 have:=w.tr _ ho
 rw[h] at this;cases this
theorem W.new {OO}{H:Hp}(w:W OO H){p:Addr}(h:H p=none){o:HO}(m:Mp o=true):W ([(p,o)]::OO) (upd H p o):=by
 have hf:=w.fresh h
 refine⟨λc hc=>?_,?_,λc hc=>?_⟩
 ·simp only[List.flatten_cons,List.cons_append,List.nil_append,List.mem_cons] at hc
  rcases hc with rfl |hc
  ·exact YB
  ·rw[XA (λe=>hf (by rw[←e];exact Vn hc))];exact w.tr c hc
 ·rw[X4];simpa using ⟨hf,w.nd⟩
 ·simp only[List.flatten_cons,List.cons_append,List.nil_append,List.mem_cons] at hc
  rcases hc with rfl |hc
  ·exact m
  ·exact w.mu c hc
theorem Jj {OO}{H:Hp}{p:Addr}(h:H p=none){o:HO}:Xz (hid H OO) (hid (upd H p o) ([(p,o)]::OO)):=λb u q=>by
 obtain⟨q1,q2⟩:=X5 q
 have hb:b≠p:=X7 q1 h
 refine Zz (by rw[XA hb];exact q1) ?_
 rw[X4];simpa using ⟨hb,q2⟩
theorem ZZ {OO}{H:Hp}(w:W OO H){p:Addr}(h:H p=none){o:HO}:hid (upd H p o) OO p=some o:=Zz YB (w.fresh h)
class MonoE {α:Type}(r:Enc α):Prop where
 mono:∀{K:PySem.W.Frag}{H H':Hp}{v:V}{a:α},Xz H H'->r K H v a->r K H' v a
noncomputable def Oy:HO->Bool
 | .tup _=>true
 | .frz _ _=>true
 |_=>false
noncomputable def Vv (H H':Hp):Prop:=∀ b o,H b=some o->Oy o=true->H' b=some o
theorem Xz.i {H H':Hp}(s:Xz H H'):Vv H H':=λb o h _=>s b o h
theorem W.i {OO}{H:Hp}(w:W OO H):Vv H (hid H OO):=λb o h i=>Zz h λz=>by
 obtain⟨u,hu⟩:=Bs z
 have h1:=w.tr _ hu
 have h2:=w.mu _ hu
 rw[h] at h1
 have e:o=u:=Option.some.inj h1
 subst e
 revert i h2;cases o<;> simp[Oy,Mp]
theorem Vv.trans {H H1 H2:Hp}(a:Vv H H1)(b:Vv H1 H2):Vv H H2:=λc o h i=>b c o (a c o h i) i
class FlatE {α:Type}(r:Enc α):Prop where
 flat:∀{K:PySem.W.Frag}{H H':Hp}{v:V}{a:α},Vv H H'->r K H v a->r K H' v a
instance {α:Type}{r:Enc α}[f:FlatE r]:MonoE r:=⟨λs h=>f.flat s.i h⟩
theorem Vv.seqT {K:PySem.W.Frag}{H H':Hp}{a:Addr}{xs:List V}(e:Vv H H')(h:SqT K H a xs):SqT K H' a xs:=by
 rcases h with(h | ⟨o,h⟩) |h
 ·exact .inl (.inl (e _ _ h rfl))
 ·exact .inl (.inr ⟨o,e _ _ h rfl⟩)
 ·exact .inr h
noncomputable def X0:Enc Bool:=λ_ _ v b=>v= .bl b
noncomputable def rV {α:Type}(r:Enc α):Enc (List α):=λK H v as=>∃ a xs,v= .ref a/\H a=some (.lst xs)/\Paired (r K H) xs as
noncomputable def rPL {α:Type}(r:Enc α):Enc (List α):=λK H v as=>∃ a xs,v= .ref a/\H a=some (.tup xs)/\Paired (r K H) xs as
noncomputable def rP2 {α β:Type}(r:Enc α)(q:Enc β):Enc (α×β):=λK H v p=>∃ a x y,v= .ref a/\H a=some (.tup [x,y])/\r K H x p.1/\q K H y p.2
noncomputable def rP3 {α β γ:Type}(r:Enc α)(q:Enc β)(t:Enc γ):Enc (α×β×γ):=λK H v p=>∃ a x y z,v= .ref a/\H a=some (.tup [x,y,z])/\r K H x p.1/\q K H y p.2.1/\t K H z p.2.2
instance {α:Type}{r:Enc α}[m:MonoE r]:MonoE (rV r):=⟨λs r9=>by obtain⟨a,xs,e,q,p⟩:=r9;exact⟨a,xs,e,s _ _ q,Paired.imp2 (λ_ _ z=>m.mono s z) p⟩⟩
instance {α:Type}{r:Enc α}[m:MonoE r]:MonoE (rPL r):=⟨λs r9=>by obtain⟨a,xs,e,q,p⟩:=r9;exact⟨a,xs,e,s _ _ q,Paired.imp2 (λ_ _ z=>m.mono s z) p⟩⟩
instance {α:Type}{r:Enc α}[m:FlatE r]:FlatE (rPL r):=⟨λs r9=>by obtain⟨a,xs,e,q,p⟩:=r9;exact⟨a,xs,e,s _ _ q rfl,Paired.imp2 (λ_ _ z=>m.flat s z) p⟩⟩
instance {α β:Type}{r:Enc α}{q:Enc β}[m:MonoE r][n:MonoE q]:MonoE (rP2 r q):=⟨λs r9=>by obtain⟨a,x,y,e,h,p1,p2⟩:=r9;exact⟨a,x,y,e,s _ _ h,m.mono s p1,n.mono s p2⟩⟩
instance {α β:Type}{r:Enc α}{q:Enc β}[m:FlatE r][n:FlatE q]:FlatE (rP2 r q):=⟨λs r9=>by obtain⟨a,x,y,e,h,p1,p2⟩:=r9;exact⟨a,x,y,e,s _ _ h rfl,m.flat s p1,n.flat s p2⟩⟩
instance {α β γ:Type}{r:Enc α}{q:Enc β}{t:Enc γ}[m:MonoE r][n:MonoE q][k:MonoE t]:MonoE (rP3 r q t):=⟨λs r9=>by obtain⟨a,x,y,z,e,h,p1,p2,p3⟩:=r9;exact⟨a,x,y,z,e,s _ _ h,m.mono s p1,n.mono s p2,k.mono s p3⟩⟩
instance {α β γ:Type}{r:Enc α}{q:Enc β}{t:Enc γ}[m:FlatE r][n:FlatE q][k:FlatE t]:FlatE (rP3 r q t):=⟨λs r9=>by obtain⟨a,x,y,z,e,h,p1,p2,p3⟩:=r9;exact⟨a,x,y,z,e,s _ _ h rfl,m.flat s p1,n.flat s p2,k.flat s p3⟩⟩
instance:FlatE Xa:=⟨λ_ h=>h⟩
instance:FlatE X0:=⟨λ_ h=>h⟩
instance {α:Type}{r:Enc α}[m:MonoE r]:MonoE (rL r):=⟨λs r9=>by obtain⟨a,xs,e,q,p⟩:=r9;exact⟨a,xs,e,s.seq q,Paired.imp2 (λ_ _ z=>m.mono s z) p⟩⟩
noncomputable abbrev OE (α:Type):=PySem.W.Frag->Hp->V->α->List XH->Prop
inductive P3 {α β γ:Type}(F:α->β->γ->Prop):List α->List β->List γ->Prop where
 |nil:P3 F [] [] []
 |cons {a b c l m n}:F a b c->P3 F l m n->P3 F (a::l) (b::m) (c::n)
noncomputable def oF {α:Type}(r:Enc α):OE α:=λK h v a C=>C=[]/\r K h v a
noncomputable def oL {α:Type}(o:OE α):OE (List α):=λK h v as C=>∃ p xs Cs,v= .ref p/\P3 (o K h) xs as Cs/\C=(p, .lst xs)::Cs.flatten
noncomputable def oT2 {α β:Type}(o:OE α)(q:OE β):OE (α×β):=λK h v a C=>∃ p x y C1 C2,v= .ref p/\h p=some (.tup [x,y])/\o K h x a.1 C1/\q K h y a.2 C2/\C=C1++C2
section
variable {α β γ δ:Type}
theorem P3.imp {F G:α->β->γ->Prop}(h:∀a b c,F a b c->G a b c):∀{l m n},P3 F l m n->P3 G l m n:=λp=>by
 induction p with
 |nil=>exact .nil
 |cons r _ ih=>exact .cons (h _ _ _ r) ih
theorem P3.app {F:α->β->γ->Prop}:∀{l m n l' m' n'},P3 F l m n->P3 F l' m' n'->P3 F (l++l') (m++m') (n++n'):=λp h=>by
 induction p with
 |nil=>exact h
 |cons r _ ih=>exact .cons r ih
theorem P3.snoc {F:α->β->γ->Prop}{l m n a b c}(h:P3 F l m n)(r:F a b c):P3 F (l++[a]) (m++[b]) (n++[c]):=h.app (.cons r .nil)
theorem P3.len {F:α->β->γ->Prop}:∀{l m n},P3 F l m n->l.length=m.length/\n.length=m.length:=λp=>by
 induction p with
 |nil=>exact⟨rfl,rfl⟩
 |cons _ _ ih=>exact⟨congrArg Nat.succ ih.1,congrArg Nat.succ ih.2⟩
theorem P3.pair {F:α->β->γ->Prop}{G:α->β->Prop}:∀{l m n},P3 F l m n->(∀a b c,c∈n->F a b c->G a b)->Paired G l m:=λp h=>by
 induction p with
 |nil=>exact .nil
 |cons r _ ih=>exact .cons (h _ _ _ List.mem_cons_self r) (ih λa b c hc=>h a b c (List.mem_cons_of_mem _ hc))
theorem P3.get {F:α->β->γ->Prop}:∀{l m n}{i:Nat}{b:β},P3 F l m n->m[i]?=some b->∃a c,l[i]?=some a/\n[i]?=some c/\F a b c
 |_,_,_,_,_, .nil,e=>by simp at e
 |_,_,_,0,_, .cons r _,e=>by simp at e;subst e;exact⟨_,_,rfl,rfl,r⟩
 |_,_,_,i+1,b, .cons _ t,e=>by
  obtain⟨a,c,h1,h2,h3⟩:=P3.get (i:=i) (b:=b) t (by simpa using e)
  exact⟨a,c,by simpa using h1,by simpa using h2,h3⟩
theorem P3.set {F:α->β->γ->Prop}{a:α}{b:β}{c:γ}(r:F a b c):∀{l m n} (i:Nat),P3 F l m n->P3 F (l.set i a) (m.set i b) (n.set i c)
 |_,_,_,_, .nil=>.nil
 |_,_,_,0, .cons _ t=>.cons r t
 |_,_,_,i+1, .cons q t=>.cons q (P3.set r i t)
theorem P3.flat {F:α->β->Prop}:∀{l:List α}{m:List β}{n:List (List XH)},P3 (λa b c=>c=[]/\F a b) l m n->Paired F l m/\n.flatten=[]:=λp=>by
 induction p with
 |nil=>exact⟨.nil,rfl⟩
 |cons r _ ih=>exact⟨.cons r.2 ih.1,by rw[List.flatten_cons,r.1,ih.2];rfl⟩
theorem P3.of {F:α->β->Prop}:∀{l:List α}{m:List β},Paired F l m->P3 (λa b (c:List XH)=>c=[]/\F a b) l m (List.replicate m.length [])
 |_,_, .nil=>.nil
 |_,_, .cons r t=>.cons ⟨rfl,r⟩ (P3.of t)
theorem Y5:∀n:Nat,(List.replicate n ([]:List XH)).flatten=[]
 |0=>rfl
 |n+1=>by simp[List.replicate_succ,Y5 n]
end
class MonoO {α:Type}(o:OE α):Prop where
 mono:∀{K:PySem.W.Frag}{H H':Hp}{v:V}{a:α}{C:List XH},Xz H H'->o K H v a C->o K H' v a C
class FlatO {α:Type}(o:OE α):Prop where
 flat:∀{K:PySem.W.Frag}{H H':Hp}{v:V}{a:α}{C:List XH},Vv H H'->o K H v a C->o K H' v a C
class FrzC {α:Type}(o:OE α)(r:outParam (Enc α)):Prop where
 frz:∀{K:PySem.W.Frag}{H H':Hp}{v:V}{a:α}{C:List XH},o K H v a C->Xz H H'->(∀c∈C,H' c.1=some c.2)->r K H' v a
instance {α:Type}{r:Enc α}[m:MonoE r]:MonoO (oF r):=⟨λs h=>⟨h.1,m.mono s h.2⟩⟩
instance {α:Type}{r:Enc α}[m:FlatE r]:FlatO (oF r):=⟨λs h=>⟨h.1,m.flat s h.2⟩⟩
instance {α:Type}{r:Enc α}[m:MonoE r]:FrzC (oF r) r:=⟨λh s _=>m.mono s h.2⟩
instance {α:Type}{o:OE α}[m:MonoO o]:MonoO (oL o):=⟨λs r9=>by obtain⟨p,xs,Cs,e,q,c⟩:=r9;exact⟨p,xs,Cs,e,q.imp λ_ _ _ z=>m.mono s z,c⟩⟩
instance {α:Type}{o:OE α}[m:FlatO o]:FlatO (oL o):=⟨λs r9=>by obtain⟨p,xs,Cs,e,q,c⟩:=r9;exact⟨p,xs,Cs,e,q.imp λ_ _ _ z=>m.flat s z,c⟩⟩
instance {α:Type}{o:OE α}{r:Enc α}[m:FrzC o r]:FrzC (oL o) (rV r):=⟨λ⟨p,xs,Cs,e,q,c⟩ s hc=>by
 subst c
 exact⟨p,xs,e,hc _ List.mem_cons_self,q.pair λa b c hm z=>m.frz z s λx hx=>hc x (List.mem_cons_of_mem _ (List.mem_flatten.mpr ⟨c,hm,hx⟩))⟩⟩
instance {α β:Type}{o:OE α}{q:OE β}[m:MonoO o][n:MonoO q]:MonoO (oT2 o q):=⟨λs r9=>by obtain⟨p,x,y,C1,C2,e,h,h1,h2,c⟩:=r9;exact⟨p,x,y,C1,C2,e,s _ _ h,m.mono s h1,n.mono s h2,c⟩⟩
instance {α β:Type}{o:OE α}{q:OE β}[m:FlatO o][n:FlatO q]:FlatO (oT2 o q):=⟨λs r9=>by obtain⟨p,x,y,C1,C2,e,h,h1,h2,c⟩:=r9;exact⟨p,x,y,C1,C2,e,s _ _ h rfl,m.flat s h1,n.flat s h2,c⟩⟩
instance {α β:Type}{o:OE α}{q:OE β}{r:Enc α}{t:Enc β}[m:FrzC o r][n:FrzC q t]:FrzC (oT2 o q) (rP2 r t):=⟨λ⟨p,x,y,C1,C2,e,h,h1,h2,c⟩ s hc=>by
 subst c
 exact⟨p,x,y,e,s _ _ h,m.frz h1 s λc hm=>hc c (by simp[hm]),n.frz h2 s λc hm=>hc c (by simp[hm])⟩⟩
structure SC where
 p:Hp->Prop
 mono:∀h h',Xz h h'->p h->p h'
noncomputable def SC.nil:SC:=⟨λ_=>True,λ_ _ _ _=>True.intro⟩
noncomputable def SC.and (S T:SC):SC:=⟨λh=>S.p h/\T.p h,λ_ _ s q=>⟨S.mono _ _ s q.1,T.mono _ _ s q.2⟩⟩
noncomputable def SC.one {α:Type}(K:PySem.W.Frag)(r:Enc α)[m:MonoE r](v:V)(a:α):SC:=⟨λh=>r K h v a,λ_ _ s q=>m.mono s q⟩
noncomputable def SC.oneO {α:Type}(K:PySem.W.Frag)(o:OE α)[m:MonoO o](v:V)(a:α)(C:List XH):SC:=⟨λh=>o K h v a C,λ_ _ s q=>m.mono s q⟩
noncomputable abbrev SC.add {α:Type}(S:SC)(K:PySem.W.Frag)(r:Enc α)[m:MonoE r](v:V)(a:α):SC:=S.and (SC.one K r v a)
noncomputable abbrev SC.addO {α:Type}(S:SC)(K:PySem.W.Frag)(o:OE α)[m:MonoO o](v:V)(a:α)(C:List XH):SC:=S.and (SC.oneO K o v a C)
theorem SC.l {S T:SC}{h:Hp}(q:(S.and T).p h):S.p h:=q.1
theorem SC.r {S T:SC}{h:Hp}(q:(S.and T).p h):T.p h:=q.2
theorem SC.i {S T:SC}{h:Hp}(q:S.p h)(p:T.p h):(S.and T).p h:=⟨q,p⟩
theorem SC.t {h:Hp}:SC.nil.p h:=True.intro
theorem SC.p.l {S T:SC}{h:Hp}(q:(S.and T).p h):S.p h:=q.1
theorem SC.p.r {S T:SC}{h:Hp}(q:(S.and T).p h):T.p h:=q.2
noncomputable def PZ {β:Type}(Er:Exc->Hp->Prop)(F:β->Hp->Prop)(H:Hp)(m:Rs β):Prop:=
 match m with
 | .bad=>False
 | .err x=>∀ H',Xz H H'->Er x H'
 | .ok b=>F b H
section
variable (K:PySem.W.Frag)(Er:Exc->Hp->Prop)(S:SC)(OO OO':List (List XH))(σ:St)
noncomputable def FB {α:Type}(r:Enc α)(Q:VK)(a:α)(H:Hp):Prop:=∀ v H',Xz H H'->r K H' v a->Q v H'
noncomputable def FO {α:Type}(o:OE α)(Q:VK)(a:α)(H:Hp):Prop:=∀ v C H',Xz H H'->W (C::OO') H'->Xz (hid H OO) (hid H' (C::OO'))->o K (hid H' (C::OO')) v a C->Q v H'
noncomputable def FT (Q:Bool->Hp->Prop)(b:Bool)(H:Hp):Prop:=∀ H',Xz H H'->Q b H'
noncomputable def EvB {α:Type}(te:TE)(r:Enc α)(m:Rs α):Prop:=∀ H Q,W OO H->S.p (hid H OO)->PZ Er (FB K r Q) H m->te σ H Q
noncomputable def Ev {α:Type}(te:TE)(o:OE α)(m:Rs α):Prop:=∀ H Q,W OO H->S.p (hid H OO)->PZ Er (FO K OO OO' o Q) H m->te σ H Q
noncomputable def EvT (tt:TT)(m:Rs Bool):Prop:=∀ H Q,W OO H->S.p (hid H OO)->PZ Er (FT Q) H m->tt σ H Q
end
section
variable {K:PySem.W.Frag}{Er:Exc->Hp->Prop}{S:SC}{OO OO' OO2:List (List XH)}{σ:St}{α β γ:Type}
theorem FB.tr {r:Enc α}{Q:VK}:∀a H H',Xz H H'->FB K r Q a H->FB K r Q a H':=λa H H' s h v H2 s2 q=>h v H2 (s.trans s2) q
theorem FO.tr {o:OE α}{Q:VK}:∀a H H',Xz H H'->FO K OO OO' o Q a H->FO K OO OO' o Q a H':=λa H H' s h v C H2 s2 w m q=>h v C H2 (s.trans s2) w ((Xk s).trans m) q
theorem FT.tr {Q:Bool->Hp->Prop}:∀b H H',Xz H H'->FT Q b H->FT Q b H':=λa H H' s h H2 s2=>h H2 (s.trans s2)
theorem EvB.run {te:TE}{r:Enc α}{m:Rs α}(he:EvB K Er S OO σ te r m){H:Hp}{Q:VK}(w:W OO H)(s:S.p (hid H OO)){f:α->Rs β}{F:β->Hp->Prop}(hF:∀b H H',Xz H H'->F b H->F b H')(P:PZ Er F H (m.bind f))
  (hk:∀a v H',Xz H H'->W OO H'->S.p (hid H' OO)->r K H' v a->PZ Er F H' (f a)->Q v H'):te σ H Q:=by
 refine he H Q w s ?_
 cases m with
 |bad=>exact P
 |err x=>exact P
 |ok a=>
  intro v H' s' hr
  refine hk a v H' s' (w.keep s') (S.mono _ _ (Xk s') s) hr ?_
  have P':PZ Er F H (f a):=P
  revert P'
  cases f a with
  |bad=>exact λz=>z
  |err x=>exact λz H2 s2=>z H2 (s'.trans s2)
  |ok b=>exact λz=>hF b H H' s' z
theorem Ev.run {te:TE}{o:OE α}{m:Rs α}(he:Ev K Er S OO OO' σ te o m){H:Hp}{Q:VK}(w:W OO H)(s:S.p (hid H OO)){f:α->Rs β}{F:β->Hp->Prop}(hF:∀b H H',Xz H H'->F b H->F b H')(P:PZ Er F H (m.bind f))
  (hk:∀a v C H',Xz H H'->W (C::OO') H'->Xz (hid H OO) (hid H' (C::OO'))->S.p (hid H' (C::OO'))->o K (hid H' (C::OO')) v a C->PZ Er F H' (f a)->Q v H'):te σ H Q:=by
 refine he H Q w s ?_
 cases m with
 |bad=>exact P
 |err x=>exact P
 |ok a=>
  intro v C H' s' w' m' ho
  refine hk a v C H' s' w' m' (S.mono _ _ m' s) ho ?_
  have P':PZ Er F H (f a):=P
  revert P'
  cases f a with
  |bad=>exact λz=>z
  |err x=>exact λz H2 s2=>z H2 (s'.trans s2)
  |ok b=>exact λz=>hF b H H' s' z
theorem EvT.run {tt:TT}{m:Rs Bool}(he:EvT Er S OO σ tt m){H:Hp}{Q:Bool->Hp->Prop}(w:W OO H)(s:S.p (hid H OO)){f:Bool->Rs β}{F:β->Hp->Prop}(hF:∀b H H',Xz H H'->F b H->F b H')(P:PZ Er F H (m.bind f))
  (hk:∀b H',Xz H H'->W OO H'->S.p (hid H' OO)->PZ Er F H' (f b)->Q b H'):tt σ H Q:=by
 refine he H Q w s ?_
 cases m with
 |bad=>exact P
 |err x=>exact P
 |ok a=>
  intro H' s'
  refine hk a H' s' (w.keep s') (S.mono _ _ (Xk s') s) ?_
  have P':PZ Er F H (f a):=P
  revert P'
  cases f a with
  |bad=>exact λz=>z
  |err x=>exact λz H2 s2=>z H2 (s'.trans s2)
  |ok b=>exact λz=>hF b H H' s' z
theorem Ev.toB {te:TE}{o:OE α}{r:Enc α}[z:FrzC o r]{m:Rs α}(he:Ev K Er S OO OO σ te o m):EvB K Er S OO σ te r m:=λH Q w s P=>by
 refine he H Q w s ?_
 cases m with
 |bad=>exact P
 |err x=>exact P
 |ok a=>exact λv C H' s' w' m' ho=>P v H' s' (z.frz ho Xx w'.cell)
theorem Ev.frz {te:TE}{o:OE α}{r:Enc α}[z:FrzC o r]{m:Rs α}(he:Ev K Er S OO OO' σ te o m):Ev K Er S OO OO' σ te (oF r) m:=λH Q w s P=>by
 refine he H Q w s ?_
 cases m with
 |bad=>exact P
 |err x=>exact P
 |ok a=>
  intro v C H' s' w' m' ho
  have hs:Xz (hid H' (C::OO')) (hid H' ([]::OO')):=QL (Xz.refl _) λb hb=>by rw[BB] at hb;rw[X4];simp[hb]
  refine P v [] H' s' w'.tail.nil (m'.trans hs) ⟨rfl,z.frz ho hs λc hc=>Zz (w'.cell c hc) ?_⟩
  rw[BB]
  have:=w'.nd
  rw[X4] at this
  intro hb
  exact(List.nodup_append.mp this).2.2 c.1 (List.mem_map.mpr ⟨c,hc,rfl⟩) c.1 hb rfl
theorem EvB.flat {te:TE}{r:Enc α}[z:FlatE r]{m:Rs α}(he:EvB K Er S OO σ te r m):Ev K Er S OO OO σ te (oF r) m:=λH Q w s P=>by
 refine he H Q w s ?_
 cases m with
 |bad=>exact P
 |err x=>exact P
 |ok a=>
  intro v H' s' hr
  have w':=w.keep s'
  exact P v [] H' s' w'.nil (by rw[Zs];exact Xk s') ⟨rfl,by rw[Zs];exact z.flat w'.i hr⟩
theorem Xb {r:Enc α}[z:MonoE r]{v:V}{a:α}(i:Nat)(hσ:σ[i]?=some (some v))(h:∀x,S.p x->r K x v a):EvB K Er S OO σ (GF i) r (.ok a):=λH Q w s P=>
 ⟨v,hσ,P v H (Xz.refl _) (z.mono Xx (h _ s))⟩
theorem YY {o:OE α}{r:Enc α}[z:FrzC o r]{v:V}{a:α}{C:List XH}(i k:Nat)(hσ:σ[i]?=some (some v))(hk:OO[k]?=some C)(h:∀x,S.p x->o K x v a C):EvB K Er S OO σ (GF i) r (.ok a):=λH Q w s P=>
 ⟨v,hσ,P v H (Xz.refl _) (z.frz (h _ s) Xx λc hc=>w.tr c (List.mem_flatten.mpr ⟨C,List.mem_of_getElem? hk,hc⟩))⟩
theorem Ye:∀{OO:List (List XH)}{k:Nat}{C:List XH},OO[k]?=some C->(C::OO.set k []).flatten.Perm OO.flatten
 | [],_,_,h=>by simp at h
 |D::OO,0,C,h=>by simp at h;subst h;simp
 |D::OO,k+1,C,h=>by
  have:=Ye (OO:=OO) (k:=k) (C:=C) (by simpa using h)
  simp only[List.set_cons_succ,List.flatten_cons] at this⊢
  refine List.Perm.trans ?_ (this.append_left D)
  rw[←List.append_assoc, ←List.append_assoc]
  exact List.perm_append_comm.append_right _
theorem Jf {OO OO':List (List XH)}(h:OO'.flatten.Perm OO.flatten)(b:Addr):b∈fl OO'↔b∈fl OO:=(h.map (·.1)).mem_iff
theorem X8 {H:Hp}{OO OO':List (List XH)}(h:OO'.flatten.Perm OO.flatten):hid H OO'=hid H OO:=by
 funext b;unfold hid
 by_cases hb:b∈fl OO
 ·rw[if_pos hb,if_pos ((Jf h b).mpr hb)]
 ·rw[if_neg hb,if_neg λz=>hb ((Jf h b).mp z)]
theorem Yd {o:OE α}{v:V}{a:α}{C:List XH}(i k:Nat)(hσ:σ[i]?=some (some v))(hk:OO[k]?=some C)(h:∀x,S.p x->o K x v a C):Ev K Er S OO (OO.set k []) σ (GF i) o (.ok a):=λH Q w s P=>by
 have hp:=Ye hk
 exact⟨v,hσ,P v C H (Xz.refl _) (w.of hp) (by rw[X8 hp];exact Xz.refl _) (by rw[X8 hp];exact h _ s)⟩
theorem Xg (n:Int):EvB K Er S OO σ (tC (.int n)) Xa (.ok n):=λH Q w s P=>P _ H (Xz.refl _) rfl
theorem ZE (b:Bool):EvB K Er S OO σ (tC (.bl b)) X0 (.ok b):=λH Q w s P=>P _ H (Xz.refl _) rfl
theorem VQ {ta tb:TE}{g:Int->Int->V}{r:Enc β}{f:Int->Int->β}{ma mb:Rs Int}(hg:∀K H i j,r K H (g i j) (f i j))(ha:EvB K Er S OO σ ta Xa ma)(hb:EvB K Er S OO σ tb Xa mb):
  EvB K Er S OO σ (tOp (rI0 g) ta tb) r (ma.bind λa=>mb.bind λb=>.ok (f a b)):=λH Q w s P=>
 ha.run w s FB.tr P λa x H1 s1 w1 q1 r1 P1=>hb.run w1 q1 FB.tr P1 λb y H2 s2 w2 q2 r2 P2=>⟨a,b,r1,r2,P2 _ H2 (Xz.refl _) (hg K H2 a b)⟩
theorem Kk {ta tb:TE}{Cc:Int->Int->Prop}{g:Int->Int->V}{r:Enc β}{f:Int->Int->Rs β}{ma mb:Rs Int}(hg:∀K H i j c,f i j= .ok c->Cc i j/\r K H (g i j) c)(he:∀i j x,f i j≠ .err x)
  (ha:EvB K Er S OO σ ta Xa ma)(hb:EvB K Er S OO σ tb Xa mb):
  EvB K Er S OO σ (tOp (rI Cc g) ta tb) r (ma.bind λa=>mb.bind λb=>f a b):=λH Q w s P=>
 ha.run w s FB.tr P λa x H1 s1 w1 q1 r1 P1=>hb.run w1 q1 FB.tr P1 λb y H2 s2 w2 q2 r2 P2=>by
  cases e:f a b with
  |bad=>rw[e] at P2;exact P2.elim
  |err x=>exact absurd e (he a b x)
  |ok c=>
   rw[e] at P2
   obtain⟨h1,h2⟩:=hg K H2 a b c e
   exact⟨a,b,r1,r2,h1,P2 _ H2 (Xz.refl _) h2⟩
noncomputable def Qr (a b:Int):Rs Int:=chk ((-(2^64)<a/\a<2^64)∨(-(2^64)<b/\b<2^64)) (.ok (a*b))
noncomputable def Z2 (a b:Int):Rs Int:=chk (0<b) (.ok (a % b))
noncomputable def Nk (a b:Int):Rs Int:=chk (0<b/\b.natAbs.log2<9000) (.ok (a/b))
noncomputable def Lg (a b:Int):Rs Int:=chk (0<=b/\b<=1000000/\a.natAbs<2^64) (.ok (a^b.toNat))
theorem ZD {c:Prop}[Decidable c]{m:Rs α}{a:α}(h:chk c m= .ok a):c/\m= .ok a:=by
 unfold chk at h;split at h
 ·exact⟨by assumption,h⟩
 ·cases h
theorem QB {c:Prop}[Decidable c]{a:α}{x:Exc}:chk c (Rs.ok a)≠ .err x:=by
 unfold chk;split<;> exact λz=>nomatch z
theorem XZ {ta tb:TE}{ma mb:Rs Int}(ha:EvB K Er S OO σ ta Xa ma)(hb:EvB K Er S OO σ tb Xa mb):EvB K Er S OO σ (tOp (rI NA λi j=>.int (i*j)) ta tb) Xa (ma.bind λa=>mb.bind λb=>Qr a b):=
 Kk (λK H i j c h=>by obtain⟨h1,h2⟩:=ZD h;cases h2;exact⟨h1,rfl⟩) (λi j x=>QB) ha hb
theorem XO {ta tb:TE}{ma mb:Rs Int}(ha:EvB K Er S OO σ ta Xa ma)(hb:EvB K Er S OO σ tb Xa mb):EvB K Er S OO σ (tOp (rI (λ_ j=>0<j) λi j=>.int (i % j)) ta tb) Xa (ma.bind λa=>mb.bind λb=>Z2 a b):=
 Kk (λK H i j c h=>by obtain⟨h1,h2⟩:=ZD h;cases h2;exact⟨h1,rfl⟩) (λi j x=>QB) ha hb
theorem CV {ta tb:TE}{ma mb:Rs Int}(ha:EvB K Er S OO σ ta Xa ma)(hb:EvB K Er S OO σ tb Xa mb):EvB K Er S OO σ (tOp (rI (λ_ j=>0<j/\j.natAbs.log2<9000) λi j=>.int (i/j)) ta tb) Xa (ma.bind λa=>mb.bind λb=>Nk a b):=
 Kk (λK H i j c h=>by obtain⟨h1,h2⟩:=ZD h;cases h2;exact⟨h1,rfl⟩) (λi j x=>QB) ha hb
theorem Kw {ta tb:TE}{ma mb:Rs Int}(ha:EvB K Er S OO σ ta Xa ma)(hb:EvB K Er S OO σ tb Xa mb):EvB K Er S OO σ (tOp (rI OH λi j=>.int (i^j.toNat)) ta tb) Xa (ma.bind λa=>mb.bind λb=>Lg a b):=
 Kk (λK H i j c h=>by obtain⟨h1,h2⟩:=ZD h;cases h2;exact⟨h1,rfl⟩) (λi j x=>QB) ha hb
theorem XQ {ta tb:TE}{ma mb:Rs Int}(ha:EvB K Er S OO σ ta Xa ma)(hb:EvB K Er S OO σ tb Xa mb):EvB K Er S OO σ (tOp (rI0 λi j=>.int (i+j)) ta tb) Xa (ma.bind λa=>mb.bind λb=>.ok (a+b)):=VQ (λ_ _ _ _=>rfl) ha hb
theorem Qn {ta tb:TE}{ma mb:Rs Int}(ha:EvB K Er S OO σ ta Xa ma)(hb:EvB K Er S OO σ tb Xa mb):EvB K Er S OO σ (tOp (rI0 λi j=>.int (i-j)) ta tb) Xa (ma.bind λa=>mb.bind λb=>.ok (a-b)):=VQ (λ_ _ _ _=>rfl) ha hb
theorem QJ {ta tb:TE}{ma mb:Rs Int}(ha:EvB K Er S OO σ ta Xa ma)(hb:EvB K Er S OO σ tb Xa mb):EvB K Er S OO σ (tOp (rI0 λi j=>.bl (decide (i<j))) ta tb) X0 (ma.bind λa=>mb.bind λb=>.ok (decide (a<b))):=VQ (λ_ _ _ _=>rfl) ha hb
theorem Im {ta tb:TE}{ma mb:Rs Int}(ha:EvB K Er S OO σ ta Xa ma)(hb:EvB K Er S OO σ tb Xa mb):EvB K Er S OO σ (tOp (rI0 λi j=>.bl (decide (i<=j))) ta tb) X0 (ma.bind λa=>mb.bind λb=>.ok (decide (a<=b))):=VQ (λ_ _ _ _=>rfl) ha hb
theorem Vj {ta tb:TE}{ma mb:Rs Int}(ha:EvB K Er S OO σ ta Xa ma)(hb:EvB K Er S OO σ tb Xa mb):EvB K Er S OO σ (tOp (rI0 λi j=>.bl (decide (j<i))) ta tb) X0 (ma.bind λa=>mb.bind λb=>.ok (decide (b<a))):=VQ (λ_ _ _ _=>rfl) ha hb
theorem ZS {ta:TE}{ma:Rs Int}(ha:EvB K Er S OO σ ta Xa ma):EvB K Er S OO σ (tUn (rU λi=>.int (-i)) ta) Xa (ma.bind λa=>.ok (-a)):=λH Q w s P=>
 ha.run w s FB.tr P λa x H1 s1 w1 q1 r1 P1=>⟨a,r1,P1 _ H1 (Xz.refl _) rfl⟩
class Scal {α:Type}[DecidableEq α](r:Enc α):Prop where
 to:∀{K:PySem.W.Frag}{H H':Hp}{x y:V}{a b:α},r K H x a->r K H' y b->Ou x y=true/\decide (x=y)=decide (a=b)
instance:Scal Xa:=⟨fun {K H H' x y a b} h1 h2=>by cases(show x= .int a from h1);cases(show y= .int b from h2);exact⟨rfl,by simp⟩⟩
instance:Scal X0:=⟨fun {K H H' x y a b} h1 h2=>by cases(show x= .bl a from h1);cases(show y= .bl b from h2);exact⟨rfl,by simp⟩⟩
theorem Q5 [DecidableEq α]{r:Enc α}[z:Scal r][MonoE r]{ta tb:TE}{ma mb:Rs α}(ha:EvB K Er S OO σ ta r ma)(hb:EvB K Er S OO σ tb r mb):EvB K Er S OO σ (tOp rEq ta tb) X0 (ma.bind λa=>mb.bind λb=>.ok (decide (a=b))):=λH Q w s P=>
 ha.run w s FB.tr P λa x H1 s1 w1 q1 r1 P1=>hb.run w1 q1 FB.tr P1 λb y H2 s2 w2 q2 r2 P2=>by
  obtain⟨h1,h2⟩:=z.to r1 r2
  exact⟨h1,P2 _ H2 (Xz.refl _) (by rw[h2];rfl)⟩
theorem UL [DecidableEq α]{r:Enc α}[z:Scal r][MonoE r]{ta tb:TE}{ma mb:Rs α}(ha:EvB K Er S OO σ ta r ma)(hb:EvB K Er S OO σ tb r mb):EvB K Er S OO σ (tOp rNe ta tb) X0 (ma.bind λa=>mb.bind λb=>.ok (!decide (a=b))):=λH Q w s P=>
 ha.run w s FB.tr P λa x H1 s1 w1 q1 r1 P1=>hb.run w1 q1 FB.tr P1 λb y H2 s2 w2 q2 r2 P2=>by
  obtain⟨h1,h2⟩:=z.to r1 r2
  exact⟨h1,P2 _ H2 (Xz.refl _) (by rw[h2];rfl)⟩
theorem Lw [DecidableEq α]{r:Enc α}[z:MonoE r]{ta tb:TE}{ma mb:Rs α}(ha:EvB K Er S OO σ ta r ma)(hb:EvB K Er S OO σ tb r mb):EvB K Er S OO σ (tOp (Oz K r) ta tb) X0 (ma.bind λa=>mb.bind λb=>.ok (!decide (a=b))):=λH Q w s P=>
 ha.run w s FB.tr P λa x H1 s1 w1 q1 r1 P1=>hb.run w1 q1 FB.tr P1 λb y H2 s2 w2 q2 r2 P2=>⟨a,b,z.mono s2 r1,r2,P2 _ H2 (Xz.refl _) rfl⟩
theorem UD {te:TE}{m:Rs Bool}(h:EvB K Er S OO σ te X0 m):EvT Er S OO σ (tB te) m:=λH Q w s P=>h H _ w s (by
 cases m with
 |bad=>exact P
 |err x=>exact P
 |ok a=>exact λv H' s' r=>⟨a,r,P H' s'⟩)
theorem Xv {te:TE}{m:Rs Bool}(h:EvB K Er S OO σ te X0 m):EvT Er S OO σ (NC te) m:=UD h
theorem Va {t:TT}{m:Rs Bool}(h:EvT Er S OO σ t m):EvT Er S OO σ (OL t) (m.bind λb=>.ok (!b)):=λH Q w s P=>h.run w s FT.tr P λb H1 s1 w1 q1 P1=>P1 H1 (Xz.refl _)
noncomputable def IE (a b:Rs Bool):Rs Bool:=a.bind λx=>if x=true then b else .ok false
noncomputable def orR (a b:Rs Bool):Rs Bool:=a.bind λx=>if x=true then .ok true else b
theorem BD {t u:TT}{m n:Rs Bool}(h:EvT Er S OO σ t m)(k:EvT Er S OO σ u n):EvT Er S OO σ (OG t u) (IE m n):=λH Q w s P=>h.run w s FT.tr P λb H1 s1 w1 q1 P1=>by
 cases b with
 |true=>rw[if_pos rfl] at P1⊢;exact k H1 Q w1 q1 P1
 |false=>exact P1 H1 (Xz.refl _)
theorem Il {t u:TT}{m n:Rs Bool}(h:EvT Er S OO σ t m)(k:EvT Er S OO σ u n):EvT Er S OO σ (tOr t u) (orR m n):=λH Q w s P=>h.run w s FT.tr P λb H1 s1 w1 q1 P1=>by
 cases b with
 |true=>exact P1 H1 (Xz.refl _)
 |false=>exact k H1 Q w1 q1 P1
theorem HL {t:TE}{m:Rs Bool}(h:EvB K Er S OO σ t X0 m):EvB K Er S OO σ (NS t) X0 (m.bind λb=>.ok (!b)):=λH Q w s P=>h.run w s FB.tr P λb x H1 s1 w1 q1 r1 P1=>⟨b,r1,P1 _ H1 (Xz.refl _) rfl⟩
theorem HY {t u:TE}{m n:Rs Bool}(h:EvB K Er S OO σ t X0 m)(k:EvB K Er S OO σ u X0 n):EvB K Er S OO σ (MV t u) X0 (IE m n):=λH Q w s P=>h.run w s FB.tr P λb x H1 s1 w1 q1 r1 P1=>⟨b,r1,by
 cases b with
 |true=>rw[if_pos rfl] at P1⊢;exact k H1 Q w1 q1 P1
 |false=>exact P1 _ H1 (Xz.refl _) rfl⟩
theorem Op {c:TT}{ta tb:TE}{o:OE α}{mc:Rs Bool}{ma mb:Rs α}(hc:EvT Er S OO σ c mc)(ha:Ev K Er S OO OO' σ ta o ma)(hb:Ev K Er S OO OO' σ tb o mb):Ev K Er S OO OO' σ (tIf c ta tb) o (mc.bind λb=>if b=true then ma else mb):=λH Q w s P=>
 hc.run w s FO.tr P λb H1 s1 w1 q1 P1=>by
  cases b with
  |true=>rw[if_pos rfl] at P1⊢;exact ha H1 Q w1 q1 P1
  |false=>exact hb H1 Q w1 q1 P1
end
section
variable (K:PySem.W.Frag)(Er:Exc->Hp->Prop)(S:SC)(OO:List (List XH))(σ:St)
noncomputable def FS {α:Type}(r:Enc α)(Q:VK)(a:α)(H:Hp):Prop:=∀ v H',Xz H H'->r K (hid H' OO) v a->Q v H'
noncomputable def EvS {α:Type}(te:TE)(r:Enc α)(m:Rs α):Prop:=∀ H Q,W OO H->S.p (hid H OO)->PZ Er (FS K OO r Q) H m->te σ H Q
noncomputable def rE {α:Type}(r:Enc α)(H:Hp)(v:V)(as:List α):Prop:=∃ p xs,v= .ref p/\H p=some (.lst xs)/\Paired (r K (hid H OO)) xs as
noncomputable def FL {α:Type}(r:Enc α)(Q:VK)(as:List α)(H:Hp):Prop:=∀ v H',Xz H H'->rE K OO r H' v as->Q v H'
noncomputable def EvL {α:Type}(te:TE)(r:Enc α)(m:Rs (List α)):Prop:=∀ H Q,W OO H->S.p (hid H OO)->PZ Er (FL K OO r Q) H m->te σ H Q
end
section
variable {K:PySem.W.Frag}{Er:Exc->Hp->Prop}{S:SC}{OO OO' OO2:List (List XH)}{σ:St}{α β γ:Type}
theorem FS.tr {r:Enc α}{Q:VK}:∀a H H',Xz H H'->FS K OO r Q a H->FS K OO r Q a H':=λa H H' s h v H2 s2 q=>h v H2 (s.trans s2) q
theorem FL.tr {r:Enc α}{Q:VK}:∀a H H',Xz H H'->FL K OO r Q a H->FL K OO r Q a H':=λa H H' s h v H2 s2 q=>h v H2 (s.trans s2) q
theorem PZ.run {F:β->Hp->Prop}{f:α->Rs β}{H H':Hp}{a:α}{m:Rs α}(hm:m= .ok a)(hF:∀b H H',Xz H H'->F b H->F b H')(s:Xz H H')(P:PZ Er F H (m.bind f)):PZ Er F H' (f a):=by
 subst hm
 have P':PZ Er F H (f a):=P
 revert P'
 cases f a with
 |bad=>exact λz=>z
 |err x=>exact λz H2 s2=>z H2 (s.trans s2)
 |ok b=>exact λz=>hF b H H' s z
theorem EvS.run {te:TE}{r:Enc α}{m:Rs α}(he:EvS K Er S OO σ te r m){H:Hp}{Q:VK}(w:W OO H)(s:S.p (hid H OO)){f:α->Rs β}{F:β->Hp->Prop}(hF:∀b H H',Xz H H'->F b H->F b H')(P:PZ Er F H (m.bind f))
  (hk:∀a v H',Xz H H'->W OO H'->S.p (hid H' OO)->r K (hid H' OO) v a->PZ Er F H' (f a)->Q v H'):te σ H Q:=by
 refine he H Q w s ?_
 cases e:m with
 |bad=>rw[e] at P;exact P
 |err x=>rw[e] at P;exact P
 |ok a=>exact λv H' s' hr=>hk a v H' s' (w.keep s') (S.mono _ _ (Xk s') s) hr (PZ.run e hF s' P)
theorem EvL.run {te:TE}{r:Enc α}{m:Rs (List α)}(he:EvL K Er S OO σ te r m){H:Hp}{Q:VK}(w:W OO H)(s:S.p (hid H OO)){f:List α->Rs β}{F:β->Hp->Prop}(hF:∀b H H',Xz H H'->F b H->F b H')(P:PZ Er F H (m.bind f))
  (hk:∀a v H',Xz H H'->W OO H'->S.p (hid H' OO)->rE K OO r H' v a->PZ Er F H' (f a)->Q v H'):te σ H Q:=by
 refine he H Q w s ?_
 cases e:m with
 |bad=>rw[e] at P;exact P
 |err x=>rw[e] at P;exact P
 |ok a=>exact λv H' s' hr=>hk a v H' s' (w.keep s') (S.mono _ _ (Xk s') s) hr (PZ.run e hF s' P)
theorem PZ.imp {F G:β->Hp->Prop}{H:Hp}{m:Rs β}(P:PZ Er F H m)(h:∀b,m= .ok b->F b H->G b H):PZ Er G H m:=by
 cases m with
 |bad=>exact P
 |err x=>exact P
 |ok b=>exact h b rfl P
theorem EvS.toB {te:TE}{r:Enc α}[z:MonoE r]{m:Rs α}(he:EvS K Er S OO σ te r m):EvB K Er S OO σ te r m:=λH Q w s P=>he H Q w s (P.imp λb _ h v H' s' q=>h v H' s' (z.mono Xx q))
theorem EvS.ev {te:TE}{r:Enc α}{m:Rs α}(he:EvS K Er S OO σ te r m):Ev K Er S OO OO σ te (oF r) m:=λH Q w s P=>he H Q w s (P.imp λb _ h v H' s' q=>
 h v [] H' s' (w.keep s').nil (by rw[Zs];exact Xk s') ⟨rfl,by rw[Zs];exact q⟩)
theorem EvB.sh {te:TE}{r:Enc α}[z:FlatE r]{m:Rs α}(he:EvB K Er S OO σ te r m):EvS K Er S OO σ te r m:=λH Q w s P=>he H Q w s (P.imp λb _ h v H' s' q=>h v H' s' (z.flat (w.keep s').i q))
theorem Ev.sh {te:TE}{o:OE α}{r:Enc α}[z:FrzC o r]{m:Rs α}(he:Ev K Er S OO OO σ te o m):EvS K Er S OO σ te r m:=λH Q w s P=>he.frz H Q w s (P.imp λb _ h v C H' s' w' m' q=>by
 obtain⟨rfl,q⟩:=q
 rw[Zs] at q
 exact h v H' s' q)
theorem Xj {r:Enc α}{v:V}{a:α}(i:Nat)(hσ:σ[i]?=some (some v))(h:∀x,S.p x->r K x v a):EvS K Er S OO σ (GF i) r (.ok a):=λH Q w s P=>⟨v,hσ,P v H (Xz.refl _) (h _ s)⟩
theorem EvS.ls {te:TE}{r:Enc α}{m:Rs (List α)}(he:EvS K Er S OO σ te (rV r) m):EvL K Er S OO σ te r m:=λH Q w s P=>he H Q w s (P.imp λb _ h v H' s' r9=>by obtain⟨p,xs,e,q,pr⟩:=r9;exact h v H' s' ⟨p,xs,e,Xx _ _ q,pr⟩)
theorem EvB.ls {te:TE}{r:Enc α}[z:FlatE r]{m:Rs (List α)}(he:EvB K Er S OO σ te (rV r) m):EvL K Er S OO σ te r m:=λH Q w s P=>he H Q w s (P.imp λb _ h v H' s' r9=>by obtain⟨p,xs,e,q,pr⟩:=r9;exact h v H' s' ⟨p,xs,e,q,Paired.imp2 (λ_ _ z'=>z.flat (w.keep s').i z') pr⟩)
theorem Ev.ls {te:TE}{r:Enc α}[z:MonoE r]{m:Rs (List α)}(he:Ev K Er S OO OO σ te (oL (oF r)) m):EvL K Er S OO σ te r m:=he.sh.ls
noncomputable def atR (as:List α)(i:Int):Rs α:=match atI as i with
 |some a=>.ok a
 |none=>.bad
theorem F9 {as:List α}{i:Int}{a:α}(h:atR as i= .ok a):atI as i=some a:=by
 unfold atR at h;split at h
 ·cases h;assumption
 ·cases h
theorem K3 {as:List α}{i:Int}{x:Exc}:atR as i≠ .err x:=by unfold atR;split<;> exact λz=>nomatch z
theorem JR {F:V->α->Prop}{xs:List V}{as:List α}{i:Int}{a:α}(p:Paired F xs as)(h:atI as i=some a):∃x,atI xs i=some x/\F x a:=by
 unfold atI at h⊢
 rw[Paired.len p]
 cases e:ixN as.length i with
 |none=>rw[e] at h;cases h
 |some j=>
  rw[e] at h
  obtain⟨x,h1,h2⟩:=Paired.getR p h
  exact⟨x,h1,h2⟩
theorem PZ.okOf {F:β->Hp->Prop}{H:Hp}{m:Rs β}(he:∀x,m≠ .err x)(P:PZ Er F H m):∃b,m= .ok b/\F b H:=by
 cases m with
 |bad=>exact P.elim
 |err x=>exact absurd rfl (he x)
 |ok b=>exact⟨b,rfl,P⟩
theorem XE {ta tb:TE}{r:Enc α}[z:MonoE r]{ma:Rs (List α)}{mb:Rs Int}(ha:EvB K Er S OO σ ta (rV r) ma)(hb:EvB K Er S OO σ tb Xa mb):EvB K Er S OO σ (tOp (Ib K) ta tb) r (ma.bind λas=>mb.bind λi=>atR as i):=λH Q w s P=>
 ha.run w s FB.tr P λa x H1 s1 w1 q1 ⟨p,xs,e,q,pr⟩ P1=>hb.run w1 q1 FB.tr P1 λb y H2 s2 w2 q2 r2 P2=>by
  obtain⟨c,hc,P3⟩:=P2.okOf λx=>K3
  obtain⟨u,h1,h2⟩:=JR pr (F9 hc)
  exact⟨p,xs,b,u,e,r2,SqL.of (s2 _ _ q),h1,P3 u H2 (Xz.refl _) (z.mono s2 h2)⟩
theorem MP {ta tb:TE}{r:Enc α}[z:MonoE r]{ma:Rs (List α)}{mb:Rs Int}(ha:EvL K Er S OO σ ta r ma)(hb:EvB K Er S OO σ tb Xa mb):EvS K Er S OO σ (tOp (Ib K) ta tb) r (ma.bind λas=>mb.bind λi=>atR as i):=λH Q w s P=>
 ha.run w s FS.tr P λa x H1 s1 w1 q1 ⟨p,xs,e,q,pr⟩ P1=>hb.run w1 q1 FS.tr P1 λb y H2 s2 w2 q2 r2 P2=>by
  obtain⟨c,hc,P3⟩:=P2.okOf λx=>K3
  obtain⟨u,h1,h2⟩:=JR pr (F9 hc)
  exact⟨p,xs,b,u,e,r2,SqL.of (s2 _ _ q),h1,P3 u H2 (Xz.refl _) (z.mono (Xk s2) h2)⟩
theorem Ex {ta:TE}{r:Enc α}{q:Enc β}{m:Rs (α×β)}(ha:EvB K Er S OO σ ta (rP2 r q) m):EvB K Er S OO σ (tOp (Mo K) ta (tC (.int 0))) r (m.bind λp=>.ok p.1):=λH Q w s P=>
 ha.run w s FB.tr P λa x H1 s1 w1 q1 r9 P1=>by obtain⟨p,x,y,e,q,h1,h2⟩:=r9;exact⟨p,_,0,x,e,rfl,SqT.of q,rfl,P1 _ H1 (Xz.refl _) h1⟩
theorem Uf {ta:TE}{r:Enc α}{q:Enc β}{m:Rs (α×β)}(ha:EvB K Er S OO σ ta (rP2 r q) m):EvB K Er S OO σ (tOp (Mo K) ta (tC (.int 1))) q (m.bind λp=>.ok p.2):=λH Q w s P=>
 ha.run w s FB.tr P λa x H1 s1 w1 q1 r9 P1=>by obtain⟨p,x,y,e,q,h1,h2⟩:=r9;exact⟨p,_,1,y,e,rfl,SqT.of q,rfl,P1 _ H1 (Xz.refl _) h2⟩
theorem Vc {ta:TE}{r:Enc α}{q:Enc β}{m:Rs (α×β)}(ha:EvS K Er S OO σ ta (rP2 r q) m):EvS K Er S OO σ (tOp (Mo K) ta (tC (.int 0))) r (m.bind λp=>.ok p.1):=λH Q w s P=>
 ha.run w s FS.tr P λa x H1 s1 w1 q1 r9 P1=>by obtain⟨p,x,y,e,q,h1,h2⟩:=r9;exact⟨p,_,0,x,e,rfl,SqT.of (Xx _ _ q),rfl,P1 _ H1 (Xz.refl _) h1⟩
theorem Bc {ta:TE}{r:Enc α}{q:Enc β}{m:Rs (α×β)}(ha:EvS K Er S OO σ ta (rP2 r q) m):EvS K Er S OO σ (tOp (Mo K) ta (tC (.int 1))) q (m.bind λp=>.ok p.2):=λH Q w s P=>
 ha.run w s FS.tr P λa x H1 s1 w1 q1 r9 P1=>by obtain⟨p,x,y,e,q,h1,h2⟩:=r9;exact⟨p,_,1,y,e,rfl,SqT.of (Xx _ _ q),rfl,P1 _ H1 (Xz.refl _) h2⟩
theorem Ym {ta:TE}{r:Enc α}{m:Rs (List α)}(ha:EvB K Er S OO σ ta (rV r) m):EvB K Er S OO σ (tCB (Cw K) (X2 ta QV)) Xa (m.bind λas=>.ok (as.length:Int)):=λH Q w s P=>
 ha.run w s FB.tr P λa x H1 s1 w1 q1 r9 P1=>by obtain⟨p,xs,e,q,pr⟩:=r9;exact⟨p,xs,by rw[e], .inl (SqL.of q),P1 _ H1 (Xz.refl _) (by rw[Paired.len pr];rfl)⟩
theorem Mt {r:Enc α}[z:MonoE r]{xs:List V}{as:List α}{H:Hp}{Q:VK}(w:W OO H)(pr:Paired (r K (hid H OO)) xs as)(P:FO K OO OO (oL (oF r)) Q as H):∀p,H p=none->Q (.ref p) (upd H p (.lst xs)):=λp hp=>by
 have hn:=Jj (OO:=OO) hp (o:=.lst xs)
 refine P (.ref p) [(p, .lst xs)] _ (XL hp _) (w.new hp rfl) hn ?_
 refine⟨p,xs,List.replicate as.length [],rfl,(P3.of (Paired.imp2 (λ_ _ h=>z.mono hn h) pr)).imp λ_ _ _ h=>h,by rw[Y5]⟩
theorem Paired.take' {F:α->β->Prop}:∀{l:List α}{m:List β} (n:Nat),Paired F l m->Paired F (l.take n) (m.take n)
 |_,_,0,_=>.nil
 |_,_,_+1, .nil=>.nil
 |_,_,n+1, .cons r t=>.cons r (Paired.take' n t)
theorem Paired.drop' {F:α->β->Prop}:∀{l:List α}{m:List β} (n:Nat),Paired F l m->Paired F (l.drop n) (m.drop n)
 |_,_,0,h=>h
 |_,_,_+1, .nil=>.nil
 |_,_,n+1, .cons _ t=>Paired.drop' n t
theorem Paired.rep' {F:α->β->Prop}{l:List α}{m:List β}(h:Paired F l m):∀n:Nat,Paired F (List.replicate n l).flatten (List.replicate n m).flatten
 |0=>.nil
 |n+1=>by simp only[List.replicate_succ,List.flatten_cons];exact Paired.app h (Paired.rep' h n)
noncomputable def DM (as:List α)(lo hi:Option Int):List α:=(as.drop (HT.sIx as.length 0 lo)).take (HT.sIx as.length as.length hi-HT.sIx as.length 0 lo)
theorem UZ {F:V->α->Prop}{xs:List V}{as:List α}(p:Paired F xs as)(lo hi:Option Int):Paired F (Mq xs lo hi) (DM as lo hi):=by
 unfold Mq DM;rw[Paired.len p];exact Paired.take' _ (Paired.drop' _ p)
noncomputable def FP (Q:Option Int->Hp->Prop)(a:Option Int)(H:Hp):Prop:=∀ H',Xz H H'->Q a H'
noncomputable def EvP (Er:Exc->Hp->Prop)(S:SC)(OO:List (List XH))(σ:St)(t:TO)(m:Rs (Option Int)):Prop:=∀ H Q,W OO H->S.p (hid H OO)->PZ Er (FP Q) H m->t σ H Q
theorem EvP.run {t:TO}{m:Rs (Option Int)}(he:EvP Er S OO σ t m){H:Hp}{Q:Option Int->Hp->Prop}(w:W OO H)(s:S.p (hid H OO)){f:Option Int->Rs β}{F:β->Hp->Prop}(hF:∀b H H',Xz H H'->F b H->F b H')(P:PZ Er F H (m.bind f))
  (hk:∀a H',Xz H H'->W OO H'->S.p (hid H' OO)->PZ Er F H' (f a)->Q a H'):t σ H Q:=by
 refine he H Q w s ?_
 cases e:m with
 |bad=>rw[e] at P;exact P
 |err x=>rw[e] at P;exact P
 |ok a=>exact λH' s'=>hk a H' s' (w.keep s') (S.mono _ _ (Xk s') s) (PZ.run e hF s' P)
theorem Kf:EvP Er S OO σ ER (.ok none):=λH Q w s P=>P H (Xz.refl _)
theorem Kt {te:TE}{m:Rs Int}(h:EvB K Er S OO σ te Xa m):EvP Er S OO σ (NW te) (m.bind λi=>.ok (some i)):=λH Q w s P=>
 h.run w s (λ_ _ _ s h H2 s2=>h H2 (s.trans s2)) P λa v H1 s1 w1 q1 r1 P1=>⟨a,r1,P1 H1 (Xz.refl _)⟩
theorem F0 {te:TE}{tl th:TO}{r:Enc α}[z:MonoE r]{m:Rs (List α)}{ml mh:Rs (Option Int)}(he:EvL K Er S OO σ te r m)(hl:EvP Er S OO σ tl ml)(hh:EvP Er S OO σ th mh):
  Ev K Er S OO OO σ (tSl (N1 K) te tl th) (oL (oF r)) (m.bind λas=>ml.bind λlo=>mh.bind λhi=>.ok (DM as lo hi)):=λH Q w s P=>
 he.run w s FO.tr P λas x H1 s1 w1 q1 ⟨p,xs,e,q,pr⟩ P1=>hl.run w1 q1 FO.tr P1 λlo H2 s2 w2 q2 P2=>hh.run w2 q2 FO.tr P2 λhi H3 s3 w3 q3 P3'=>
  ⟨p,xs,e,SqL.of (s3 _ _ (s2 _ _ q)),Mt w3 (UZ (Paired.imp2 (λ_ _ h=>z.mono ((Xk s2).trans (Xk s3)) h) pr) lo hi) P3'⟩
theorem HG {ta:TE}{r:Enc α}{m:Rs (List α)}(ha:EvB K Er S OO σ ta (rL r) m):EvB K Er S OO σ (tCB (Cw K) (X2 ta QV)) Xa (m.bind λas=>.ok (as.length:Int)):=λH Q w s P=>
 ha.run w s FB.tr P λa x H1 s1 w1 q1 r9 P1=>by obtain⟨p,xs,e,q,pr⟩:=r9;exact⟨p,xs,by rw[e], .inl q,P1 _ H1 (Xz.refl _) (by rw[Paired.len pr];rfl)⟩
theorem LF {ta tb:TE}{ma:Rs (List Int)}{mb:Rs Int}(ha:EvB K Er S OO σ ta (rL Xa) ma)(hb:EvB K Er S OO σ tb Xa mb):EvB K Er S OO σ (tOp (Ib K) ta tb) Xa (ma.bind λas=>mb.bind λi=>atR as i):=λH Q w s P=>
 ha.run w s FB.tr P λa x H1 s1 w1 q1 ⟨p,xs,e,q,pr⟩ P1=>hb.run w1 q1 FB.tr P1 λb y H2 s2 w2 q2 r2 P2=>by
  obtain⟨c,hc,P3⟩:=P2.okOf λx=>K3
  obtain⟨u,h1,h2⟩:=JR pr (F9 hc)
  exact⟨p,xs,b,u,e,r2,s2.seq q,h1,P3 u H2 (Xz.refl _) h2⟩
theorem CJ {te:TE}{tl th:TO}{m:Rs (List Int)}{ml mh:Rs (Option Int)}(he:EvB K Er S OO σ te (rL Xa) m)(hl:EvP Er S OO σ tl ml)(hh:EvP Er S OO σ th mh):
  Ev K Er S OO OO σ (tSl (N1 K) te tl th) (oL (oF Xa)) (m.bind λas=>ml.bind λlo=>mh.bind λhi=>.ok (DM as lo hi)):=λH Q w s P=>
 he.run w s FO.tr P λas x H1 s1 w1 q1 ⟨p,xs,e,q,pr⟩ P1=>hl.run w1 q1 FO.tr P1 λlo H2 s2 w2 q2 P2=>hh.run w2 q2 FO.tr P2 λhi H3 s3 w3 q3 P3'=>
  ⟨p,xs,e,s3.seq (s2.seq q),Mt w3 (UZ (Paired.imp2 (λ_ _ h=>h) pr) lo hi) P3'⟩
noncomputable def DL (as bs:List α):Rs (List α):=chk (as.length+bs.length<=sizeLine) (.ok (as++bs))
theorem Dm {ta tb:TE}{r:Enc α}[z:MonoE r]{ma mb:Rs (List α)}(ha:EvL K Er S OO σ ta r ma)(hb:EvL K Er S OO σ tb r mb):Ev K Er S OO OO σ (tOp N6 ta tb) (oL (oF r)) (ma.bind λas=>mb.bind λbs=>DL as bs):=λH Q w s P=>
 ha.run w s FO.tr P λas x H1 s1 w1 q1 ⟨p,xs,e,q,pr⟩ P1=>hb.run w1 q1 FO.tr P1 λbs y H2 s2 w2 q2 ⟨p',ys,e',q',pr'⟩ P2=>by
  obtain⟨c,hc,P3⟩:=P2.okOf λx=>QB
  obtain⟨h1,h2⟩:=ZD hc
  cases h2
  exact⟨p,p',xs,ys,e,e',s2 _ _ q,q',by rw[Paired.len pr,Paired.len pr'];exact h1,Mt w2 (Paired.app (Paired.imp2 (λ_ _ h=>z.mono (Xk s2) h) pr) pr') P3⟩
noncomputable def G6 (as:List α)(n:Int):Rs (List α):=chk (-(2^63)<=n/\n<2^63/\as.length*n.toNat<=sizeLine) (.ok (List.replicate n.toNat as).flatten)
theorem UV {ta tb:TE}{r:Enc α}[z:MonoE r]{ma:Rs (List α)}{mb:Rs Int}(ha:EvL K Er S OO σ ta r ma)(hb:EvB K Er S OO σ tb Xa mb):Ev K Er S OO OO σ (tOp OQ ta tb) (oL (oF r)) (ma.bind λas=>mb.bind λn=>G6 as n):=λH Q w s P=>
 ha.run w s FO.tr P λas x H1 s1 w1 q1 ⟨p,xs,e,q,pr⟩ P1=>hb.run w1 q1 FO.tr P1 λn y H2 s2 w2 q2 r2 P2=>by
  obtain⟨c,hc,P3⟩:=P2.okOf λx=>QB
  obtain⟨⟨h0,h1,h3⟩,h2⟩:=ZD hc
  cases h2
  exact⟨p,n,xs,e,r2,s2 _ _ q,h0,h1,by rw[Paired.len pr];exact h3,Mt w2 (Paired.rep' (Paired.imp2 (λ_ _ h=>z.mono (Xk s2) h) pr) _) P3⟩
theorem GO {ta:TE}{r:Enc α}[z:MonoE r]{ma:Rs (List α)}(ha:EvL K Er S OO σ ta r ma):Ev K Er S OO OO σ (tCB (Eh K) (X2 ta QV)) (oL (oF r)) (ma.bind λas=>.ok as):=λH Q w s P=>
 ha.run w s FO.tr P λas x H1 s1 w1 q1 r9 P1=>by obtain⟨p,xs,e,q,pr⟩:=r9;exact⟨p,xs,by rw[e], .inl (SqL.of q),Mt w1 pr P1⟩
noncomputable def JN (lo hi:Int):List Int:=(List.range (hi-lo).toNat).map λ(i:Nat)=>lo+(i:Int)
theorem Qt {o:OE α}:Ev K Er S OO OO σ (Nt QV) (oL o) (.ok []):=λH Q w s P=>⟨Nat.zero_le _,λp hp=>P (.ref p) [(p, .lst [])] _ (XL hp _) (w.new hp rfl) (Jj hp) ⟨p,[],[],rfl, .nil,rfl⟩⟩
noncomputable def FA {α:Type}(K:PySem.W.Frag)(OO:List (List XH))(r:Enc α)(Q:List V->Hp->Prop)(as:List α)(H:Hp):Prop:=∀ vs H',Xz H H'->Paired (r K (hid H' OO)) vs as->Q vs H'
noncomputable def EvA {α:Type}(K:PySem.W.Frag)(Er:Exc->Hp->Prop)(S:SC)(OO:List (List XH))(σ:St)(t:TA)(r:Enc α)(m:Rs (List α)):Prop:=∀ H Q,W OO H->S.p (hid H OO)->PZ Er (FA K OO r Q) H m->t σ H Q
theorem Zf {r:Enc α}:EvA K Er S OO σ QV r (.ok []):=λH Q w s P=>P [] H (Xz.refl _) .nil
theorem Xw {te:TE}{t:TA}{r:Enc α}[z:MonoE r]{m:Rs α}{n:Rs (List α)}(he:EvS K Er S OO σ te r m)(ht:EvA K Er S OO σ t r n):EvA K Er S OO σ (X2 te t) r (m.bind λa=>n.bind λas=>.ok (a::as)):=λH Q w s P=>
 he.run w s (λb H H' s h vs H2 s2 p=>h vs H2 (s.trans s2) p) P λa x H1 s1 w1 q1 r1 P1=>by
  refine ht H1 _ w1 q1 ?_
  cases e:n with
  |bad=>rw[e] at P1;exact P1
  |err x=>rw[e] at P1;exact P1
  |ok as=>rw[e] at P1;exact λvs H2 s2 p=>P1 (x::vs) H2 s2 (.cons (z.mono (Xk s2) r1) p)
theorem ZR {t:TA}{r:Enc α}[z:MonoE r]{m:Rs (List α)}(h:EvA K Er S OO σ t r m):Ev K Er S OO OO σ (Nt t) (oL (oF r)) (m.bind λas=>chk (as.length<=sizeLine) (.ok as)):=λH Q w s P=>by
 refine h H _ w s ?_
 cases e:m with
 |bad=>rw[e] at P;exact P
 |err x=>rw[e] at P;exact P
 |ok as=>
  rw[e] at P
  intro vs H1 s1 p
  obtain⟨c,hc,P3⟩:=PZ.okOf (λx=>QB) (show PZ Er _ H (chk (as.length<=sizeLine) (.ok as)) from P)
  obtain⟨h1,h2⟩:=ZD hc
  cases h2
  exact⟨by rw[Paired.len p];exact h1,Mt (w.keep s1) p (FO.tr _ _ _ s1 P3)⟩
theorem QU {ta tb:TE}{r:Enc α}{q:Enc β}[z:MonoE r][y:MonoE q]{ma:Rs α}{mb:Rs β}(ha:EvS K Er S OO σ ta r ma)(hb:EvS K Er S OO σ tb q mb):EvS K Er S OO σ (Ms (X2 ta (X2 tb QV))) (rP2 r q) (ma.bind λa=>mb.bind λb=>.ok (a,b)):=λH Q w s P=>
 ha.run w s FS.tr P λa x H1 s1 w1 q1 r1 P1=>hb.run w1 q1 FS.tr P1 λb y' H2 s2 w2 q2 r2 P2=>
  ⟨by show 2<=sizeLine;decide,λp hp=>P2 _ _ (XL hp _) ⟨p,x,y',rfl,ZZ w2 hp,z.mono ((Xk s2).trans (Xk (XL hp _))) r1,y.mono (Xk (XL hp _)) r2⟩⟩
theorem FW {ta tb tc:TE}{r:Enc α}{q:Enc β}{t:Enc γ}[z:MonoE r][y:MonoE q][x:MonoE t]{ma:Rs α}{mb:Rs β}{mc:Rs γ}(ha:EvS K Er S OO σ ta r ma)(hb:EvS K Er S OO σ tb q mb)(hc:EvS K Er S OO σ tc t mc):
  EvS K Er S OO σ (Ms (X2 ta (X2 tb (X2 tc QV)))) (rP3 r q t) (ma.bind λa=>mb.bind λb=>mc.bind λc=>.ok (a,b,c)):=λH Q w s P=>
 ha.run w s FS.tr P λa x' H1 s1 w1 q1 r1 P1=>hb.run w1 q1 FS.tr P1 λb y' H2 s2 w2 q2 r2 P2=>hc.run w2 q2 FS.tr P2 λc z' H3 s3 w3 q3 r3 P3=>
  ⟨by show 3<=sizeLine;decide,λp hp=>P3 _ _ (XL hp _) ⟨p,x',y',z',rfl,ZZ w3 hp,z.mono (((Xk s2).trans (Xk s3)).trans (Xk (XL hp _))) r1,y.mono ((Xk s3).trans (Xk (XL hp _))) r2,x.mono (Xk (XL hp _)) r3⟩⟩
end
section
variable {K:PySem.W.Frag}{Er:Exc->Hp->Prop}{S:SC}{OO OO' OO2:List (List XH)}{σ:St}{α β γ ρ ι:Type}{α1 α2 α3 α4 α5 α6:Type}
noncomputable def noE (m:Rs α):Rs α:=match m with
 | .ok a=>.ok a
 |_=>.bad
theorem Db {m:Rs α}{a:α}(h:noE m= .ok a):m= .ok a:=by
 cases m with
 |ok b=>exact h
 |bad=>cases h
 |err x=>cases h
theorem Gf {m:Rs α}{x:Exc}:noE m≠ .err x:=by cases m<;> exact λz=>nomatch z
noncomputable def FF (K:PySem.W.Frag)(o:OE α)(Q:VK)(a:α)(H:Hp):Prop:=∀ v C H',W [C] H'->Xz H (hid H' [C])->o K (hid H' [C]) v a C->Q v H'
noncomputable def sp1 (r1:Enc α1)(o:OE ρ)(f:α1->Rs ρ)(K:PySem.W.Frag):Sp:=λvs H Q _=>∃ v1 a1 b,vs=[v1]/\r1 K H v1 a1/\f a1= .ok b/\FF K o Q b H
noncomputable def sp2 (r1:Enc α1)(r2:Enc α2)(o:OE ρ)(f:α1->α2->Rs ρ)(K:PySem.W.Frag):Sp:=λvs H Q _=>∃ v1 v2 a1 a2 b,vs=[v1,v2]/\r1 K H v1 a1/\r2 K H v2 a2/\f a1 a2= .ok b/\FF K o Q b H
noncomputable def sp3 (r1:Enc α1)(r2:Enc α2)(r3:Enc α3)(o:OE ρ)(f:α1->α2->α3->Rs ρ)(K:PySem.W.Frag):Sp:=λvs H Q _=>∃ v1 v2 v3 a1 a2 a3 b,vs=[v1,v2,v3]/\r1 K H v1 a1/\r2 K H v2 a2/\r3 K H v3 a3/\f a1 a2 a3= .ok b/\FF K o Q b H
noncomputable def sp4 (r1:Enc α1)(r2:Enc α2)(r3:Enc α3)(r4:Enc α4)(o:OE ρ)(f:α1->α2->α3->α4->Rs ρ)(K:PySem.W.Frag):Sp:=λvs H Q _=>∃ v1 v2 v3 v4 a1 a2 a3 a4 b,vs=[v1,v2,v3,v4]/\r1 K H v1 a1/\r2 K H v2 a2/\r3 K H v3 a3/\r4 K H v4 a4/\f a1 a2 a3 a4= .ok b/\FF K o Q b H
theorem N9 {C:List XH}{H H':Hp}(w:W OO H)(w':W [C] H')(m':Xz H (hid H' [C])):W (C::OO) H'/\Xz (hid H OO) (hid H' (C::OO))/\Vv (hid H' [C]) (hid H' (C::OO)):=by
 have s:Xz H H':=m'.trans Xx
 have f1:fl [C]=C.map (·.1):=by simp[fl]
 have hd:∀b,b∈fl OO->b∉C.map (·.1):=λb hb hc=>by
  obtain⟨u,hu⟩:=Bs hb
  exact(X5 (m' _ _ (w.tr _ hu))).2 (by rw[f1];exact hc)
 have w2:W (C::OO) H':=by
  refine⟨λc hc=>?_,?_,λc hc=>?_⟩
  ·rw[List.flatten_cons,List.mem_append] at hc
   rcases hc with hc |hc
   ·exact w'.tr c (by simp[hc])
   ·exact s _ _ (w.tr c hc)
  ·rw[X4]
   refine List.nodup_append.mpr ⟨by rw[←f1];exact w'.nd,w.nd,λa ha b hb e=>?_⟩
   subst e;exact hd a hb ha
  ·rw[List.flatten_cons,List.mem_append] at hc
   rcases hc with hc |hc
   ·exact w'.mu c (by simp[hc])
   ·exact w.mu c hc
 refine⟨w2,λb u q=>?_,λb u q i=>?_⟩
 ·obtain⟨q1,q2⟩:=X5 q
  obtain⟨q3,q4⟩:=X5 (m' _ _ q1)
  refine Zz q3 ?_
  rw[X4,List.mem_append]
  exact λz=>z.elim (λz=>q4 (by rw[f1];exact z)) q2
 ·exact w2.i b u (X5 q).1 i
theorem KA {o:OE α}[z:FlatO o]{Q:VK}{b:α}{H:Hp}(w:W OO H)(P:FO K OO OO o Q b H):FF K o Q b H:=λv C H' w' m' ho=>by
 obtain⟨w2,h2,h3⟩:=N9 w w' m'
 exact P v C H' (m'.trans Xx) w2 h2 (z.flat h3 ho)
theorem X3 {ta:TE}{r1:Enc α1}{o:OE ρ}[FlatO o]{f:α1->Rs ρ}{ma:Rs α1}(ha:EvB K Er S OO σ ta r1 ma):Ev K Er S OO OO σ (DS (sp1 r1 o f K) [] E0 (X2 ta QV)) o (ma.bind λa=>noE (f a)):=λH Q w s P=>
 ha.run w s FO.tr P λa x H1 s1 w1 q1 r1 P1=>by
  obtain⟨b,hb,P2⟩:=P1.okOf λx=>Gf
  exact⟨x,a,b,rfl,r1,Db hb,KA w1 P2⟩
theorem XT {ta tb:TE}{r1:Enc α1}{r2:Enc α2}[z1:MonoE r1]{o:OE ρ}[FlatO o]{f:α1->α2->Rs ρ}{ma:Rs α1}{mb:Rs α2}(ha:EvB K Er S OO σ ta r1 ma)(hb:EvB K Er S OO σ tb r2 mb):
  Ev K Er S OO OO σ (DS (sp2 r1 r2 o f K) [] E0 (X2 ta (X2 tb QV))) o (ma.bind λa=>mb.bind λb=>noE (f a b)):=λH Q w s P=>
 ha.run w s FO.tr P λa x H1 s1 w1 q1 r1 P1=>hb.run w1 q1 FO.tr P1 λb y H2 s2 w2 q2 r2 P2=>by
  obtain⟨c,hc,P3⟩:=P2.okOf λx=>Gf
  exact⟨x,y,a,b,c,rfl,z1.mono s2 r1,r2,Db hc,KA w2 P3⟩
theorem Yc {ta tb tc:TE}{r1:Enc α1}{r2:Enc α2}{r3:Enc α3}[z1:MonoE r1][z2:MonoE r2]{o:OE ρ}[FlatO o]{f:α1->α2->α3->Rs ρ}{ma:Rs α1}{mb:Rs α2}{mc:Rs α3}(ha:EvB K Er S OO σ ta r1 ma)(hb:EvB K Er S OO σ tb r2 mb)(hc:EvB K Er S OO σ tc r3 mc):
  Ev K Er S OO OO σ (DS (sp3 r1 r2 r3 o f K) [] E0 (X2 ta (X2 tb (X2 tc QV)))) o (ma.bind λa=>mb.bind λb=>mc.bind λc=>noE (f a b c)):=λH Q w s P=>
 ha.run w s FO.tr P λa x H1 s1 w1 q1 r1 P1=>hb.run w1 q1 FO.tr P1 λb y H2 s2 w2 q2 r2 P2=>hc.run w2 q2 FO.tr P2 λc z H3 s3 w3 q3 r3 P3=>by
  obtain⟨d,hd,P4⟩:=P3.okOf λx=>Gf
  exact⟨x,y,z,a,b,c,d,rfl,z1.mono (s2.trans s3) r1,z2.mono s3 r2,r3,Db hd,KA w3 P4⟩
theorem Q0 {ta tb tc td:TE}{r1:Enc α1}{r2:Enc α2}{r3:Enc α3}{r4:Enc α4}[z1:MonoE r1][z2:MonoE r2][z3:MonoE r3]{o:OE ρ}[FlatO o]{f:α1->α2->α3->α4->Rs ρ}{ma:Rs α1}{mb:Rs α2}{mc:Rs α3}{md:Rs α4}(ha:EvB K Er S OO σ ta r1 ma)(hb:EvB K Er S OO σ tb r2 mb)(hc:EvB K Er S OO σ tc r3 mc)(hd:EvB K Er S OO σ td r4 md):
  Ev K Er S OO OO σ (DS (sp4 r1 r2 r3 r4 o f K) [] E0 (X2 ta (X2 tb (X2 tc (X2 td QV))))) o (ma.bind λa=>mb.bind λb=>mc.bind λc=>md.bind λd=>noE (f a b c d)):=λH Q w s P=>
 ha.run w s FO.tr P λa x H1 s1 w1 q1 r1 P1=>hb.run w1 q1 FO.tr P1 λb y H2 s2 w2 q2 r2 P2=>hc.run w2 q2 FO.tr P2 λc z H3 s3 w3 q3 r3 P3=>hd.run w3 q3 FO.tr P3 λd u H4 s4 w4 q4 r4 P4=>by
  obtain⟨e,he,P5⟩:=P4.okOf λx=>Gf
  exact⟨x,y,z,u,a,b,c,d,e,rfl,z1.mono (s2.trans (s3.trans s4)) r1,z2.mono (s3.trans s4) r2,z3.mono s4 r3,r4,Db he,KA w4 P5⟩
structure Jn (γ ι:Type) where
 oo:ι->List (List XH)
 ss:ι->St
 sc:γ->ι->SC
inductive Ctl (ρ γ:Type) where
 |ret (r:ρ) |nx (g:γ)
noncomputable def FTd (K:PySem.W.Frag)(o:OE ρ)(D:Ends)(r:ρ)(h:Hp):Prop:=∀ v C OO' H',W (C::OO') H'->Xz h (hid H' (C::OO'))->o K (hid H' (C::OO')) v r C->D.rt v H'
noncomputable def FNd (J:Jn γ ι)(D:Ends)(g:γ)(h:Hp):Prop:=∀ x H',W (J.oo x) H'->Xz h (hid H' (J.oo x))->(J.sc g x).p (hid H' (J.oo x))->D.nx (J.ss x) H'
noncomputable def FCd (K:PySem.W.Frag)(o:OE ρ)(J:Jn γ ι)(D:Ends)(c:Ctl ρ γ)(h:Hp):Prop:=match c with
 | .ret r=>FTd K o D r h
 | .nx g=>FNd J D g h
class FdOk (Fd:Ends->β->Hp->Prop):Prop where
 tr:∀D b h h',Xz h h'->Fd D b h->Fd D b h'
instance {o:OE ρ}:FdOk (FTd K o):=⟨λD b h h' s q v C O H' w m x=>q v C O H' w (s.trans m) x⟩
instance {J:Jn γ ι}:FdOk (FNd J):=⟨λD b h h' s q x H' w m y=>q x H' w (s.trans m) y⟩
instance {o:OE ρ}{J:Jn γ ι}:FdOk (FCd K o J):=⟨λD b h h' s q=>by
 cases b with
 |ret r=>exact λv C O H' w m x=>q v C O H' w (s.trans m) x
 |nx g=>exact λx H' w m y=>q x H' w (s.trans m) y⟩
theorem PZ.tr {F:β->Hp->Prop}(hF:∀b H H',Xz H H'->F b H->F b H'){H H':Hp}{m:Rs β}(s:Xz H H')(P:PZ Er F H m):PZ Er F H' m:=by
 cases m with
 |bad=>exact P
 |err x=>exact λH2 s2=>P H2 (s.trans s2)
 |ok b=>exact hF b H H' s P
noncomputable def Sv (Er:Exc->Hp->Prop)(S:SC)(OO:List (List XH))(σ:St)(t:TS)(Fd:Ends->β->Hp->Prop)(m:Rs β):Prop:=∀ H D,W OO H->S.p (hid H OO)->PZ Er (Fd D) (hid H OO) m->t D σ H
variable {Fd:Ends->β->Hp->Prop}[fd:FdOk Fd]{u:TS}
theorem Ev.st {te:TE}{o:OE α}{m:Rs α}(he:Ev K Er S OO OO' σ te o m){H:Hp}{D:Ends}{Q:VK}(w:W OO H)(s:S.p (hid H OO)){f:α->Rs β}(P:PZ Er (Fd D) (hid H OO) (m.bind f))
  (hk:∀a v C H',W (C::OO') H'->S.p (hid H' (C::OO'))->o K (hid H' (C::OO')) v a C->PZ Er (Fd D) (hid H' (C::OO')) (f a)->Q v H'):te σ H Q:=by
 refine he H Q w s ?_
 cases m with
 |bad=>exact P
 |err x=>exact λH' s'=>P H' (Xx.trans s')
 |ok a=>exact λv C H' s' w' m' ho=>hk a v C H' w' (S.mono _ _ m' s) ho (PZ.tr (fd.tr D) m' P)
theorem EvB.st {te:TE}{r:Enc α}{m:Rs α}(he:EvB K Er S OO σ te r m){H:Hp}{D:Ends}{Q:VK}(w:W OO H)(s:S.p (hid H OO)){f:α->Rs β}(P:PZ Er (Fd D) (hid H OO) (m.bind f))
  (hk:∀a v H',Xz H H'->W OO H'->S.p (hid H' OO)->r K H' v a->PZ Er (Fd D) (hid H' OO) (f a)->Q v H'):te σ H Q:=by
 refine he H Q w s ?_
 cases m with
 |bad=>exact P
 |err x=>exact λH' s'=>P H' (Xx.trans s')
 |ok a=>exact λv H' s' hr=>hk a v H' s' (w.keep s') (S.mono _ _ (Xk s') s) hr (PZ.tr (fd.tr D) (Xk s') P)
theorem EvS.st {te:TE}{r:Enc α}{m:Rs α}(he:EvS K Er S OO σ te r m){H:Hp}{D:Ends}{Q:VK}(w:W OO H)(s:S.p (hid H OO)){f:α->Rs β}(P:PZ Er (Fd D) (hid H OO) (m.bind f))
  (hk:∀a v H',Xz H H'->W OO H'->S.p (hid H' OO)->r K (hid H' OO) v a->PZ Er (Fd D) (hid H' OO) (f a)->Q v H'):te σ H Q:=by
 refine he H Q w s ?_
 cases m with
 |bad=>exact P
 |err x=>exact λH' s'=>P H' (Xx.trans s')
 |ok a=>exact λv H' s' hr=>hk a v H' s' (w.keep s') (S.mono _ _ (Xk s') s) hr (PZ.tr (fd.tr D) (Xk s') P)
theorem EvT.st {tt:TT}{m:Rs Bool}(he:EvT Er S OO σ tt m){H:Hp}{D:Ends}{Q:Bool->Hp->Prop}(w:W OO H)(s:S.p (hid H OO)){f:Bool->Rs β}(P:PZ Er (Fd D) (hid H OO) (m.bind f))
  (hk:∀b H',W OO H'->S.p (hid H' OO)->PZ Er (Fd D) (hid H' OO) (f b)->Q b H'):tt σ H Q:=by
 refine he H Q w s ?_
 cases m with
 |bad=>exact P
 |err x=>exact λH' s'=>P H' (Xx.trans s')
 |ok a=>exact λH' s'=>hk a H' (w.keep s') (S.mono _ _ (Xk s') s) (PZ.tr (fd.tr D) (Xk s') P)
theorem U6 {OO:List (List XH)}{k:Nat}{C:List XH}:(OO.set k C).set k []=OO.set k []:=by simp
theorem OV {C:List XH}{H:Hp}{k:Nat}(w:W (C::OO) H)(hk:k<OO.length):W (OO.set k C) H/\Xz (hid H (C::OO)) (hid H (OO.set k C)):=by
 have h1:=Ye (OO:=OO) (k:=k) (C:=OO[k]) (by simp[hk])
 have h2:=Ye (OO:=OO.set k C) (k:=k) (C:=C) (by simp[hk])
 rw[U6] at h2
 have h3:(OO.set k C).flatten.Perm (C++(OO.set k []).flatten):=by simpa using h2.symm
 have h4:(C::OO).flatten.Perm (C++(OO[k]++(OO.set k []).flatten)):=by
  rw[List.flatten_cons];exact(by simpa using h1.symm:OO.flatten.Perm (OO[k]++(OO.set k []).flatten)).append_left C
 have h5:(C++(OO.set k []).flatten).Sublist (C++(OO[k]++(OO.set k []).flatten)):=List.Sublist.append (List.Sublist.refl _) (List.sublist_append_right _ _)
 have w1:W [C++(OO[k]++(OO.set k []).flatten)] H:=w.of (by simpa using h4.symm)
 have w2:W [C++(OO.set k []).flatten] H:=w1.sub (by simpa using h5)
 refine⟨w2.of (by simpa using h3),QL (Xz.refl _) λb hb=>?_⟩
 obtain⟨o,ho⟩:=Bs hb
 exact Vn (h4.mem_iff.mpr (h5.mem (h3.mem_iff.mp ho)))
theorem XM {te:TE}{o:OE α}[MonoO o]{m:Rs α}{f:α->Rs β}(i k:Nat)(he:Ev K Er S OO OO' σ te o m)(hk:k<OO'.length)(hr:∀a v C,Sv Er (S.addO K o v a C) (OO'.set k C) (σ.set i (some v)) u Fd (f a)):Sv Er S OO σ (Vi (Ir te (ZB i)) u) Fd (m.bind f):=λH D w s P=>
 he.st w s P λa v C H' w' s' ho P'=>by
  obtain⟨w2,h2⟩:=OV w' hk
  exact hr a v C H' D w2 ⟨S.mono _ _ h2 s',MonoO.mono h2 ho⟩ (PZ.tr (fd.tr D) h2 P')
theorem Xp {te:TE}{r:Enc α}[MonoE r]{m:Rs α}{f:α->Rs β}(i:Nat)(he:EvS K Er S OO σ te r m)(hr:∀a v,Sv Er (S.add K r v a) OO (σ.set i (some v)) u Fd (f a)):Sv Er S OO σ (Vi (Ir te (ZB i)) u) Fd (m.bind f):=λH D w s P=>
 he.st w s P λa v H' s1 w' s' ho P'=>hr a v H' D w' ⟨s',ho⟩ P'
theorem XB {te:TE}{o:OE ρ}{m:Rs ρ}(he:Ev K Er S OO OO' σ te o m):Sv Er S OO σ (Vi (OT te) u) (FTd K o) m:=λH D w s P=>
 he H _ w s (by
  cases m with
  |bad=>exact P
  |err x=>exact λH' s'=>P H' (Xx.trans s')
  |ok a=>exact λv C H' s' w' m' ho=>P v C OO' H' w' m' ho)
theorem GC {J:Jn γ ι}{t:TS}{o:OE ρ}{m:Rs γ}(h:Sv Er S OO σ t (FNd J) m):Sv Er S OO σ t (FCd K o J) (m.bind λr=>.ok (.nx r)):=λH D w s P=>h H D w s (by
 cases m with
 |bad=>exact P
 |err x=>exact P
 |ok a=>exact P)
theorem Xu {J:Jn γ ι}(x:ι)(g:γ)(h1:OO=J.oo x)(h2:σ=J.ss x)(h3:∀h,S.p h->(J.sc g x).p h):Sv Er S OO σ ED (FNd J) (.ok g):=λH D w s P=>by
 subst h1 h2
 exact P x H w (Xz.refl _) (h3 _ s)
theorem Is {t:TS}:Sv Er S OO σ t Fd .bad:=λH D w s P=>P.elim
theorem Q6 {o:OE ρ}{c:TT}{t1:TS}{mc:Rs Bool}{m1 m2:Rs ρ}(hc:EvT Er S OO σ c mc)(h1:Sv Er S OO σ t1 (FTd K o) m1)(h2:Sv Er S OO σ u (FTd K o) m2):Sv Er S OO σ (Vi (NK c t1 ED) u) (FTd K o) (mc.bind λb=>if b=true then m1 else m2):=λH D w s P=>
 hc.st (Fd:=FTd K o) w s P λb H' w' s' P'=>by
  cases b with
  |true=>rw[if_pos rfl] at P'⊢;exact h1 H' _ w' s' P'
  |false=>exact h2 H' D w' s' P'
theorem VV {o:OE ρ}{J:Jn γ ι}{c:TT}{t1:TS}{mc:Rs Bool}{m1:Rs ρ}{m2:Rs (Ctl ρ γ)}(hc:EvT Er S OO σ c mc)(h1:Sv Er S OO σ t1 (FTd K o) m1)(h2:Sv Er S OO σ u (FCd K o J) m2):Sv Er S OO σ (Vi (NK c t1 ED) u) (FCd K o J) (mc.bind λb=>if b=true then m1.bind (λr=>.ok (.ret r)) else m2):=λH D w s P=>
 hc.st (Fd:=FCd K o J) w s P λb H' w' s' P'=>by
  cases b with
  |true=>
   rw[if_pos rfl] at P'⊢
   refine h1 H' _ w' s' ?_
   cases m1 with
   |bad=>exact P'
   |err x=>exact P'
   |ok a=>exact P'
  |false=>exact h2 H' D w' s' P'
theorem Z1 {c:TT}{t1 t2:TS}{mc:Rs Bool}{m1 m2:Rs β}(hc:EvT Er S OO σ c mc)(h1:Sv Er S OO σ t1 Fd m1)(h2:Sv Er S OO σ t2 Fd m2):Sv Er S OO σ (NK c t1 t2) Fd (mc.bind λb=>if b=true then m1 else m2):=λH D w s P=>
 hc.st w s P λb H' w' s' P'=>by
  cases b with
  |true=>rw[if_pos rfl] at P'⊢;exact h1 H' _ w' s' P'
  |false=>exact h2 H' D w' s' P'
theorem Zl {J:Jn γ ι}{t:TS}{m:Rs γ}{f:γ->Rs β}(hb:Sv Er S OO σ t (FNd J) m)(hr:∀g x,Sv Er (J.sc g x) (J.oo x) (J.ss x) u Fd (f g)):Sv Er S OO σ (Vi t u) Fd (m.bind f):=λH D w s P=>
 hb H _ w s (by
  cases m with
  |bad=>exact P
  |err x=>exact P
  |ok g=>exact λx H' w' m' q=>hr g x H' D w' q (PZ.tr (fd.tr D) m' P))
noncomputable def Q4 (f:γ->Rs ρ):Ctl ρ γ->Rs ρ
 | .ret r=>.ok r
 | .nx g=>f g
theorem Sv.weak {S2:SC}{t:TS}{m:Rs β}(h:Sv Er S2 OO σ t Fd m)(hs:∀x,S.p x->S2.p x):Sv Er S OO σ t Fd m:=λH D w s P=>h H D w (hs _ s) P
theorem Nl {t:TS}{o:OE α}{r:Enc α}[z:FrzC o r][MonoE r]{v:V}{a:α}{C:List XH}{m:Rs β}(k:Nat)(hk:OO[k]?=some C)(h:∀x,S.p x->o K x v a C)(hr:Sv Er (S.add K r v a) (OO.set k []) σ t Fd m):Sv Er S OO σ t Fd m:=λH D w s P=>by
 have hp:=Ye hk
 have w1:W (C::OO.set k []) H:=w.of hp
 have hs:Xz (hid H OO) (hid H (OO.set k [])):=by
  rw[←X8 hp]
  exact QL (Xz.refl _) λb hb=>by rw[X4];simp[hb]
 refine hr H D w1.tail ⟨S.mono _ _ hs s,z.frz (h _ s) hs λc hc=>Zz (w1.cell c hc) ?_⟩ (PZ.tr (fd.tr D) hs P)
 have:=w1.nd
 rw[X4] at this
 exact λhb=>(List.nodup_append.mp this).2.2 c.1 (List.mem_map.mpr ⟨c,hc,rfl⟩) c.1 hb rfl
theorem O0 {C D C':List XH}{H:Hp}{k:Nat}{p:Addr}{o:HO}(w:W (D::OO) H)(hk:OO[k]?=some C)(hp:p∈C.map (·.1))(hC:(C'.map (·.1)).Perm ((C++D).map (·.1)))(ht:∀c∈C',upd H p o c.1=some c.2)(hm:∀c∈C',Mp c.2=true):
  W (OO.set k C') (upd H p o)/\hid (upd H p o) (OO.set k C')=hid H (D::OO):=by
 have hlt:k<OO.length:=by
  rcases Nat.lt_or_ge k OO.length with h |h
  ·exact h
  ·rw[List.getElem?_eq_none h] at hk;cases hk
 have h1:=Ye hk
 have h2:=Ye (OO:=OO.set k C') (k:=k) (C:=C') (by simp[hlt])
 rw[U6] at h2
 have h3:(OO.set k C').flatten.Perm (C'++(OO.set k []).flatten):=by simpa using h2.symm
 have h4:(D::OO).flatten.Perm (D++(C++(OO.set k []).flatten)):=by
  rw[List.flatten_cons];exact(by simpa using h1.symm:OO.flatten.Perm (C++(OO.set k []).flatten)).append_left D
 have hfl:(fl (OO.set k C')).Perm (fl (D::OO)):=by
  unfold fl
  refine(h3.map _).trans (List.Perm.trans ?_ (h4.map _).symm)
  simp only[List.map_append]
  refine(hC.append_right _).trans ?_
  simp only[List.map_append]
  rw[←List.append_assoc]
  exact List.perm_append_comm.append_right _
 have nd:=w.nd
 refine⟨⟨λc hc=>?_,hfl.nodup_iff.mpr nd,λc hc=>?_⟩,?_⟩
 ·rcases List.mem_append.mp (h3.mem_iff.mp hc) with hc |hc
  ·exact ht c hc
  ·have hne:c.1≠p:=λe=>by
    have nd2:((D++(C++(OO.set k []).flatten)).map (·.1)).Nodup:=(h4.map _).nodup_iff.mp nd
    simp only[List.map_append] at nd2
    have nd3:=(List.nodup_append.mp nd2).2.1
    exact(List.nodup_append.mp nd3).2.2 p hp c.1 (List.mem_map.mpr ⟨c,hc,rfl⟩) e.symm
   rw[XA hne]
   exact w.tr c (h4.mem_iff.mpr (by simp[hc]))
 ·rcases List.mem_append.mp (h3.mem_iff.mp hc) with hc |hc
  ·exact hm c hc
  ·exact w.mu c (h4.mem_iff.mpr (by simp[hc]))
 ·funext b
  unfold hid
  by_cases hb:b∈fl (D::OO)
  ·rw[if_pos hb,if_pos (hfl.mem_iff.mpr hb)]
  ·rw[if_neg hb,if_neg λz=>hb (hfl.mem_iff.mp z)]
   refine XA λe=>hb ?_
   rw[e]
   obtain⟨c,hc,rfl⟩:=List.mem_map.mp hp
   exact Vn (h4.mem_iff.mpr (by simp[hc]))
theorem Qe {Cs:List (List XH)}{D:List XH}:(Cs++[D]).flatten=Cs.flatten++D:=by simp
theorem Zy {ta:TE}{o:OE α}[MonoO o]{m:Rs α}{f:List α->Rs β}{v:V}{as:List α}{C:List XH}(i k:Nat)(hσ:σ[i]?=some (some v))(hk:OO[k]?=some C)(hk':OO'[k]?=some C)(h:∀x,S.p x->oL o K x v as C)(he:Ev K Er S OO OO' σ ta o m)
  (hr:∀a C',Sv Er (S.addO K (oL o) v (as++[a]) C') (OO'.set k C') σ u Fd (f (as++[a]))):Sv Er S OO σ (Vi (DY (tBM K "list" Kx (GF i) (X2 ta QV))) u) Fd (m.bind λa=>chk (as.length<sizeLine) (f (as++[a]))):=λH D w s P=>by
 obtain⟨p,xs,Cs,e,q,c⟩:=h _ s
 subst c
 have hH:H p=some (.lst xs):=w.tr (p, .lst xs) (List.mem_flatten.mpr ⟨_,List.mem_of_getElem? hk,List.mem_cons_self⟩)
 refine⟨v,hσ,by rw[e];exact .inl ⟨rfl,_,SqL.of hH⟩,he.st w s P λa y D' H' w' s' ho P'=>?_⟩
 obtain⟨p',xs',Cs',e2,q2,c2⟩:=h _ s'
 rw[e] at e2;cases e2
 have c3:(p,HO.lst xs)=(p,HO.lst xs')/\Cs.flatten=Cs'.flatten:=by
  injection c2 with h1 h2
  exact⟨h1,h2⟩
 obtain⟨c3,c4⟩:=c3
 cases c3
 have hH':H' p=some (.lst xs):=w'.tr (p, .lst xs) (by rw[List.flatten_cons];exact List.mem_append_right _ (List.mem_flatten.mpr ⟨_,List.mem_of_getElem? hk',List.mem_cons_self⟩))
 cases hlt:decide (as.length<sizeLine) with
 |false=>rw[chk,if_neg (by simpa using hlt)] at P';exact P'.elim
 |true=>
  have hlt':as.length<sizeLine:=by simpa using hlt
  rw[XD hlt'] at P'
  have wnd:=w'.nd
  have hcell:∀c∈(p,HO.lst (xs++[y]))::(Cs'++[D']).flatten,upd H' p (.lst (xs++[y])) c.1=some c.2:=λc hc=>by
   rcases List.mem_cons.mp hc with rfl |hc
   ·exact YB
   ·have hp1:=Ye hk'
    have w3:W [D'++(((p,HO.lst xs)::Cs.flatten)++(OO'.set k []).flatten)] H':=w'.of (by
     simp only[List.flatten_cons,List.flatten_nil,List.append_nil]
     exact(by simpa using hp1:(((p,HO.lst xs)::Cs.flatten)++(OO'.set k []).flatten).Perm OO'.flatten).append_left D')
    have hin:c∈D'++(((p,HO.lst xs)::Cs.flatten)++(OO'.set k []).flatten):=by
     rw[Qe,List.mem_append] at hc
     rcases hc with hc |hc
     ·rw[←c4] at hc;simp[hc]
     ·simp[hc]
    have hne:c.1≠p:=λee=>by
     have nd3:=w3.nd
     rw[Qe,List.mem_append, ←c4] at hc
     simp only[fl,List.flatten_cons,List.flatten_nil,List.append_nil,List.map_append,List.cons_append,List.map_cons] at nd3
     rw[List.nodup_append] at nd3
     obtain⟨_,n2,n3⟩:=nd3
     rcases hc with hc |hc
     ·exact(List.nodup_cons.mp n2).1 (List.mem_append_left _ (List.mem_map.mpr ⟨c,hc,ee⟩))
     ·exact n3 c.1 (List.mem_map.mpr ⟨c,hc,rfl⟩) p List.mem_cons_self ee
    rw[XA hne]
    exact w3.tr c (by simpa using hin)
  obtain⟨w4,h4⟩:=O0 (C':=(p, .lst (xs++[y]))::(Cs'++[D']).flatten) w' hk' List.mem_cons_self (by simp[Qe,c4]) hcell (λc hc=>by
   rcases List.mem_cons.mp hc with rfl |hc
   ·rfl
   ·rw[Qe,List.mem_append, ←c4] at hc
    rcases hc with hc |hc
    ·exact w'.mu c (by rw[List.flatten_cons];exact List.mem_append_right _ (List.mem_flatten.mpr ⟨_,List.mem_of_getElem? hk',List.mem_cons_of_mem _ hc⟩))
    ·exact w'.mu c (by rw[List.flatten_cons];exact List.mem_append_left _ hc))
  refine⟨p,xs,y,e,rfl,hH',by rw[(P3.len q).1];exact hlt',?_⟩
  refine hr a _ _ D w4 ?_ (by rw[h4];exact P')
  rw[h4]
  exact⟨s',⟨p,xs++[y],Cs'++[D'],e,q2.snoc ho,rfl⟩⟩
end
section
variable {K:PySem.W.Frag}{Er:Exc->Hp->Prop}{S:SC}{OO OO' OO2:List (List XH)}{σ:St}{α β γ ρ ι δ ε:Type}
variable {Fd:Ends->β->Hp->Prop}[fd:FdOk Fd]{u:TS}
noncomputable def forN:List α->γ->(γ->α->Rs γ)->Rs γ
 | [],g,_=>.ok g
 |a::as,g,f=>(f g a).bind λg'=>forN as g' f
noncomputable def forC:List α->γ->(γ->α->Rs (Ctl ρ γ))->Rs (Ctl ρ γ)
 | [],g,_=>.ok (.nx g)
 |a::as,g,f=>(f g a).bind λc=>match c with
  | .ret r=>.ok (.ret r)
  | .nx g'=>forC as g' f
theorem YF {m:Rs α}{f:α->Rs β}{g:β->Rs γ}:(m.bind f).bind g=m.bind λa=>(f a).bind g:=by cases m<;> rfl
structure Tgt (K:PySem.W.Frag)(OO:List (List XH))(g:TG)(r:Enc α)(κ:Type) where
 set:κ->St->St
 sc:α->κ->SC->SC
 ok:∀{H:Hp}{v:V}{a:α}{σ:St}{S:SC}{Q:St->Hp->Prop},r K (hid H OO) v a->S.p (hid H OO)->(∀x,(sc a x S).p (hid H OO)->Q (set x σ) H)->g v σ H Q
noncomputable def tg1 {r:Enc α}[MonoE r](i:Nat):Tgt K OO (ZB i) r V where
 set:=λv σ=>σ.set i (some v)
 sc:=λa v S=>S.add K r v a
 ok:=fun {H v a σ S Q} hr hs hq=>hq v ⟨hs,hr⟩
noncomputable def tg2 {r:Enc α}{q:Enc β}[MonoE r][MonoE q](i j:Nat):Tgt K OO (Ie K 2 (Qz (ZB i) (Qz (ZB j) IV))) (rP2 r q) (V×V) where
 set:=λv σ=>(σ.set i (some v.1)).set j (some v.2)
 sc:=λa v S=>(S.add K r v.1 a.1).add K q v.2 a.2
 ok:=fun {H v a σ S Q} r9 hs hq=>by obtain⟨p,x,y,e,h,h1,h2⟩:=r9;exact⟨p,_,e,SqT.of (Xx _ _ h),rfl,x,[y],rfl,y,[],rfl,rfl,hq (x,y) ⟨⟨hs,h1⟩,h2⟩⟩
noncomputable def tg3 {r:Enc α}{q:Enc β}{t:Enc γ}[MonoE r][MonoE q][MonoE t](i j k:Nat):Tgt K OO (Ie K 3 (Qz (ZB i) (Qz (ZB j) (Qz (ZB k) IV)))) (rP3 r q t) (V×V×V) where
 set:=λv σ=>((σ.set i (some v.1)).set j (some v.2.1)).set k (some v.2.2)
 sc:=λa v S=>((S.add K r v.1 a.1).add K q v.2.1 a.2.1).add K t v.2.2 a.2.2
 ok:=fun {H v a σ S Q} r9 hs hq=>by obtain⟨p,x,y,z,e,h,h1,h2,h3⟩:=r9;exact⟨p,_,e,SqT.of (Xx _ _ h),rfl,x,[y,z],rfl,y,[z],rfl,z,[],rfl,rfl,hq (x,y,z) ⟨⟨⟨hs,h1⟩,h2⟩,h3⟩⟩
structure Walk (K:PySem.W.Frag)(Er:Exc->Hp->Prop)(S:SC)(OO:List (List XH))(σ:St)(wi:TI)(r:Enc α)(m:Rs (List α)):Prop where
 ok:∀{H:Hp}{R:It->Hp->Prop},W OO H->S.p (hid H OO)->PZ Er (λas H=>∀ J H',Xz H H'->
   (∀(i:Nat) a,as[i]?=some a->∀OO2 H2,W OO2 H2->Xz (hid H' OO) (hid H2 OO2)->J.go i H2/\∀x H3,J.yld i H2 x H3->Xz H2 H3/\r K (hid H3 OO2) x a)->
   (∀OO2 H2,W OO2 H2->Xz (hid H' OO) (hid H2 OO2)->J.stop as.length H2)->R J H') H m->wi σ H R
theorem Xt {te:TE}{r:Enc α}[z:MonoE r]{m:Rs (List α)}(he:EvS K Er S OO σ te (rV r) m):Walk K Er S OO σ (LS K te) r m:=⟨fun {H R} w s P=>by
 refine he H _ w s (P.imp λas _ h v H' s' ⟨p,xs,e,hp,pr⟩=>⟨p,e,⟨xs,SqL.of (Xx _ _ hp)⟩,h _ H' s' ?_ ?_⟩)
 ·intro i a ha OO2 H2 w2 m2
  obtain⟨x,hx,rx⟩:=Paired.getR pr ha
  have hq:SqL K H2 p xs:=SqL.of (Xx _ _ (m2 _ _ hp))
  refine⟨⟨xs,x,hq,hx⟩,λy H3 r9=>?_⟩
  obtain⟨e3,hy⟩:=r9
  subst e3
  refine⟨Xz.refl _,?_⟩
  have:=hy xs hq
  rw[hx] at this
  cases this
  exact z.mono m2 rx
 ·intro OO2 H2 w2 m2
  exact⟨xs,SqL.of (Xx _ _ (m2 _ _ hp)),by rw[Paired.len pr];exact Nat.le_refl _⟩⟩
noncomputable def J2 (as:List α):List (Int×α):=(List.range as.length).map (λ(i:Nat)=>(i:Int)) |>.zip as
theorem V8 {as:List α}{i:Nat}{p:Int×α}(h:(J2 as)[i]?=some p):p.1=(i:Int)/\as[i]?=some p.2:=by
 unfold J2 at h
 rw[List.getElem?_zip_eq_some] at h
 obtain⟨h1,h2⟩:=h
 rw[List.getElem?_map] at h1
 have hlt:i<as.length:=by
  rcases Nat.lt_or_ge i as.length with q |q
  ·exact q
  ·rw[List.getElem?_eq_none q] at h2;cases h2
 rw[List.getElem?_range hlt] at h1
 exact⟨(Option.some.inj h1).symm,h2⟩
theorem CL {as:List α}:(J2 as).length=as.length:=by simp[J2]
theorem Gh {te:TE}{r:Enc α}[z:MonoE r]{m:Rs (List α)}(he:EvS K Er S OO σ te (rV r) m):Walk K Er S OO σ (MW K te) (rP2 Xa r) (m.bind λas=>.ok (J2 as)):=⟨fun {H R} w s P=>by
 refine he H _ w s ?_
 cases em:m with
 |bad=>rw[em] at P;exact P
 |err x=>rw[em] at P;exact P
 |ok as=>
  rw[em] at P
  intro v H' s' ⟨p,xs,e,hp,pr⟩
  refine⟨p,e,⟨xs,SqL.of (Xx _ _ hp)⟩,P _ H' s' ?_ ?_⟩
  ·intro i a ha OO2 H2 w2 m2
   obtain⟨ha1,ha2⟩:=V8 ha
   obtain⟨x,hx,rx⟩:=Paired.getR pr ha2
   have hq:SqL K H2 p xs:=SqL.of (Xx _ _ (m2 _ _ hp))
   refine⟨⟨xs,x,hq,hx⟩,λy H3 h3=>?_⟩
   obtain⟨b,x',rfl,hb,rfl,hy⟩:=h3
   have:=hy xs hq
   rw[hx] at this
   cases this
   refine⟨XL hb _,⟨b, .int i,x,rfl,ZZ w2 hb,by show V.int _=V.int _;rw[ha1],z.mono (m2.trans (Xk (XL hb _))) rx⟩⟩
  ·intro OO2 H2 w2 m2
   exact⟨xs,SqL.of (Xx _ _ (m2 _ _ hp)),by rw[CL,Paired.len pr];exact Nat.le_refl _⟩⟩
theorem Ck {lo hi:Int}{i:Nat}{a:Int}(h:(JN lo hi)[i]?=some a):a=lo+i/\i<(hi-lo).toNat:=by
 unfold JN at h
 rw[List.getElem?_map] at h
 rcases Nat.lt_or_ge i (hi-lo).toNat with q |q
 ·rw[List.getElem?_range q] at h;exact⟨(Option.some.inj h).symm,q⟩
 ·rw[List.getElem?_eq_none (by simpa using q)] at h;cases h
theorem DB {lo hi:Int}:(JN lo hi).length=(hi-lo).toNat:=by simp[JN]
noncomputable def Vu (lo hi:Int):Rs (List Int):=chk (-(2^62)<=lo/\lo<2^62/\ -(2^62)<=hi/\hi<2^62) (.ok (JN lo hi))
theorem XF {te:TE}{m:Rs Int}(he:EvB K Er S OO σ te Xa m):Walk K Er S OO σ (MX (X2 te QV)) Xa (m.bind λn=>Vu 0 n):=⟨fun {H R} w s P=>
 he.run w s (λas H H' s' h J H2 s2=>h J H2 (s'.trans s2)) P λn v H1 s1 w1 q1 r1 P1=>by
  obtain⟨c,hc,P2⟩:=P1.okOf λx=>QB
  obtain⟨⟨_,_,h1,h2⟩,h3⟩:=ZD hc
  cases h3
  refine⟨n,by rw[show v= .int n from r1],h1,h2,P2 _ H1 (Xz.refl _) (λi a ha OO2 H2 w2 m2=>?_) λOO2 H2 w2 m2=>?_⟩
  ·obtain⟨e1,e2⟩:=Ck ha
   rw[Int.sub_zero] at e2
   refine⟨e2,λx H3 r9=>?_⟩
   obtain⟨e3,e4⟩:=r9
   subst e3
   exact⟨Xz.refl _,by rw[e4,e1];rfl⟩
  ·show n.toNat<=_
   rw[DB,Int.sub_zero];exact Nat.le_refl _⟩
theorem Yr {wi:TI}{g:TG}{tb:TS}{r:Enc α}{κ:Type}{m:Rs (List α)}{body:γ->α->Rs γ}{f:γ->Rs β}(J:Jn γ ι)(T:∀OO,Tgt K OO g r κ)(x0:ι)(g0:γ)(he:Walk K Er S OO σ wi r m)(h1:OO=J.oo x0)(h2:σ=J.ss x0)(h3:∀h,S.p h->(J.sc g0 x0).p h)
  (hb:∀g x a v,Sv Er ((T (J.oo x)).sc a v (J.sc g x)) (J.oo x) ((T (J.oo x)).set v (J.ss x)) tb (FNd J) (body g a))
  (hr:∀g x,Sv Er (J.sc g x) (J.oo x) (J.ss x) u Fd (f g)):Sv Er S OO σ (Vi (Of wi g tb) u) Fd (m.bind λas=>(forN as g0 body).bind f):=λH D w s P=>by
 refine he.ok w s ?_
 cases em:m with
 |bad=>rw[em] at P;exact P
 |err x=>rw[em] at P;exact λH' s'=>P H' (Xx.trans s')
 |ok as=>
  rw[em] at P
  have P:PZ Er (Fd D) (hid H OO) ((forN as g0 body).bind f):=P
  intro It H' s' hgo hstop
  refine⟨λi mm σ' H2=>mm=as.length-i/\i<=as.length/\∃x gg,σ'=J.ss x/\W (J.oo x) H2/\Xz (hid H' OO) (hid H2 (J.oo x))/\(J.sc gg x).p (hid H2 (J.oo x))/\PZ Er (Fd D) (hid H2 (J.oo x)) ((forN (as.drop i) gg body).bind f),⟨as.length,rfl,Nat.zero_le _,x0,g0,h2,?_,?_,?_,?_⟩,?_⟩
  ·rw[←h1];exact w.keep s'
  ·rw[←h1];exact Xz.refl _
  ·rw[←h1];exact h3 _ (S.mono _ _ (Xk s') s)
  ·rw[←h1,List.drop_zero];exact PZ.tr (fd.tr D) (Xk s') P
  ·rintro i mm σ' H2 ⟨rfl,hi,x,gg,rfl,w2,m2,sc2,P2⟩
   by_cases hlt:i<as.length
   ·right
    have ha:as[i]?=some as[i]:=by simp[hlt]
    obtain⟨h4,h5⟩:=hgo i _ ha (J.oo x) H2 w2 m2
    refine⟨h4,λσ3 H3=>∃ x gg,σ3=J.ss x/\W (J.oo x) H3/\Xz (hid H' OO) (hid H3 (J.oo x))/\(J.sc gg x).p (hid H3 (J.oo x))/\PZ Er (Fd D) (hid H3 (J.oo x)) ((forN (as.drop (i+1)) gg body).bind f),λσ3 H3 q=>⟨as.length-(i+1),Nat.sub_lt_sub_left hlt (Nat.lt_succ_self i),rfl,hlt,q⟩,λy H3 hy=>?_⟩
    obtain⟨s3,r3⟩:=h5 y H3 hy
    have w3:=w2.keep s3
    have m3:=Xk (OO:=J.oo x) s3
    refine(T (J.oo x)).ok r3 ((J.sc gg x).mono _ _ m3 sc2) λv hv=>hb gg x as[i] v H3 _ w3 hv ?_
    rw[List.drop_eq_getElem_cons hlt] at P2
    have P3:PZ Er (Fd D) (hid H2 (J.oo x)) ((body gg as[i]).bind λg'=>(forN (as.drop (i+1)) g' body).bind f):=by rw[←YF];exact P2
    cases eb:body gg as[i] with
    |bad=>rw[eb] at P3;exact P3
    |err x=>rw[eb] at P3;exact λH4 s4=>P3 H4 (m3.trans s4)
    |ok g'=>
     rw[eb] at P3
     exact λx' H4 w4 m4 sc4=>⟨x',g',rfl,w4,m2.trans (m3.trans m4),sc4,PZ.tr (fd.tr D) (m3.trans m4) P3⟩
   ·left
    have e:i=as.length:=Nat.le_antisymm hi (Nat.not_lt.mp hlt)
    subst e
    refine⟨hstop (J.oo x) H2 w2 m2,hr gg x H2 D w2 sc2 ?_⟩
    rw[List.drop_length] at P2
    exact P2
theorem KG {o:OE ρ}{wi:TI}{g:TG}{tb:TS}{r:Enc α}{κ:Type}{m:Rs (List α)}{body:γ->α->Rs (Ctl ρ γ)}{f:γ->Rs ρ}(J:Jn γ ι)(T:∀OO,Tgt K OO g r κ)(x0:ι)(g0:γ)(he:Walk K Er S OO σ wi r m)(h1:OO=J.oo x0)(h2:σ=J.ss x0)(h3:∀h,S.p h->(J.sc g0 x0).p h)
  (hb:∀g x a v,Sv Er ((T (J.oo x)).sc a v (J.sc g x)) (J.oo x) ((T (J.oo x)).set v (J.ss x)) tb (FCd K o J) (body g a))
  (hr:∀g x,Sv Er (J.sc g x) (J.oo x) (J.ss x) u (FTd K o) (f g)):Sv Er S OO σ (Vi (Of wi g tb) u) (FTd K o) (m.bind λas=>(forC as g0 body).bind (Q4 f)):=λH D w s P=>by
 refine he.ok w s ?_
 cases em:m with
 |bad=>rw[em] at P;exact P
 |err x=>rw[em] at P;exact λH' s'=>P H' (Xx.trans s')
 |ok as=>
  rw[em] at P
  have P:PZ Er (FTd K o D) (hid H OO) ((forC as g0 body).bind (Q4 f)):=P
  intro It H' s' hgo hstop
  refine⟨λi mm σ' H2=>mm=as.length-i/\i<=as.length/\∃x gg,σ'=J.ss x/\W (J.oo x) H2/\Xz (hid H' OO) (hid H2 (J.oo x))/\(J.sc gg x).p (hid H2 (J.oo x))/\PZ Er (FTd K o D) (hid H2 (J.oo x)) ((forC (as.drop i) gg body).bind (Q4 f)),⟨as.length,rfl,Nat.zero_le _,x0,g0,h2,?_,?_,?_,?_⟩,?_⟩
  ·rw[←h1];exact w.keep s'
  ·rw[←h1];exact Xz.refl _
  ·rw[←h1];exact h3 _ (S.mono _ _ (Xk s') s)
  ·rw[←h1,List.drop_zero];exact PZ.tr (FdOk.tr D) (Xk s') P
  ·rintro i mm σ' H2 ⟨rfl,hi,x,gg,rfl,w2,m2,sc2,P2⟩
   by_cases hlt:i<as.length
   ·right
    have ha:as[i]?=some as[i]:=by simp[hlt]
    obtain⟨h4,h5⟩:=hgo i _ ha (J.oo x) H2 w2 m2
    refine⟨h4,λσ3 H3=>∃ x gg,σ3=J.ss x/\W (J.oo x) H3/\Xz (hid H' OO) (hid H3 (J.oo x))/\(J.sc gg x).p (hid H3 (J.oo x))/\PZ Er (FTd K o D) (hid H3 (J.oo x)) ((forC (as.drop (i+1)) gg body).bind (Q4 f)),λσ3 H3 q=>⟨as.length-(i+1),Nat.sub_lt_sub_left hlt (Nat.lt_succ_self i),rfl,hlt,q⟩,λy H3 hy=>?_⟩
    obtain⟨s3,r3⟩:=h5 y H3 hy
    have w3:=w2.keep s3
    have m3:=Xk (OO:=J.oo x) s3
    refine(T (J.oo x)).ok r3 ((J.sc gg x).mono _ _ m3 sc2) λv hv=>hb gg x as[i] v H3 _ w3 hv ?_
    rw[List.drop_eq_getElem_cons hlt] at P2
    have P3:PZ Er (FTd K o D) (hid H2 (J.oo x)) ((body gg as[i]).bind λc=>(match c with
     | .ret r=>Rs.ok (Ctl.ret r)
     | .nx g'=>forC (as.drop (i+1)) g' body).bind (Q4 f)):=by rw[←YF];exact P2
    cases eb:body gg as[i] with
    |bad=>rw[eb] at P3;exact P3
    |err x=>rw[eb] at P3;exact λH4 s4=>P3 H4 (m3.trans s4)
    |ok c=>
     rw[eb] at P3
     cases c with
     |ret r=>exact FdOk.tr (Fd:=FTd K o) D r _ _ m3 P3
     |nx g'=>exact λx' H4 w4 m4 sc4=>⟨x',g',rfl,w4,m2.trans (m3.trans m4),sc4,PZ.tr (FdOk.tr D) (m3.trans m4) P3⟩
   ·left
    have e:i=as.length:=Nat.le_antisymm hi (Nat.not_lt.mp hlt)
    subst e
    refine⟨hstop (J.oo x) H2 w2 m2,hr gg x H2 D w2 sc2 ?_⟩
    rw[List.drop_length] at P2
    exact P2
noncomputable def Qd:Nat->γ->(γ->Rs Bool)->(γ->Rs γ)->Rs γ
 |0,_,_,_=>.bad
 |n+1,g,c,f=>(c g).bind λb=>if b=true then(f g).bind λg'=>Qd n g' c f else .ok g
theorem Kz {c:TT}{tb:TS}{mc:γ->Rs Bool}{body:γ->Rs γ}{f:γ->Rs β}(J:Jn γ ι)(n:Nat)(x0:ι)(g0:γ)(h1:OO=J.oo x0)(h2:σ=J.ss x0)(h3:∀h,S.p h->(J.sc g0 x0).p h)
  (hc:∀g x,EvT Er (J.sc g x) (J.oo x) (J.ss x) c (mc g))(hb:∀g x,Sv Er (J.sc g x) (J.oo x) (J.ss x) tb (FNd J) (body g))
  (hr:∀g x,Sv Er (J.sc g x) (J.oo x) (J.ss x) u Fd (f g)):Sv Er S OO σ (Vi (Cp c tb) u) Fd ((Qd n g0 mc body).bind f):=λH D w s P=>by
 refine⟨λmm σ' H2=>∃ x gg,σ'=J.ss x/\W (J.oo x) H2/\(J.sc gg x).p (hid H2 (J.oo x))/\PZ Er (Fd D) (hid H2 (J.oo x)) ((Qd mm gg mc body).bind f),⟨n,x0,g0,h2,by rw[←h1];exact w,by rw[←h1];exact h3 _ s,by rw[←h1];exact P⟩,?_⟩
 rintro mm σ' H2 ⟨x,gg,rfl,w2,sc2,P2⟩
 cases mm with
 |zero=>exact P2.elim
 |succ mm=>
  have P3:PZ Er (Fd D) (hid H2 (J.oo x)) ((mc gg).bind λb=>(if b=true then(body gg).bind λg'=>Qd mm g' mc body else .ok gg).bind f):=by rw[←YF];exact P2
  refine(hc gg x).st w2 sc2 P3 λb H3 w3 sc3 P4=>?_
  cases b with
  |false=>exact hr gg x H3 D w3 sc3 P4
  |true=>
   rw[if_pos rfl] at P4⊢
   refine⟨λσ3 H4=>∃ x gg,σ3=J.ss x/\W (J.oo x) H4/\(J.sc gg x).p (hid H4 (J.oo x))/\PZ Er (Fd D) (hid H4 (J.oo x)) ((Qd mm gg mc body).bind f),λσ3 H4 q=>⟨mm,Nat.lt_succ_self _,q⟩,hb gg x H3 _ w3 sc3 ?_⟩
   rw[YF] at P4
   cases eb:body gg with
   |bad=>rw[eb] at P4;exact P4
   |err x=>rw[eb] at P4;exact P4
   |ok g'=>
    rw[eb] at P4
    exact λx' H5 w5 m5 sc5=>⟨x',g',rfl,w5,sc5,PZ.tr (fd.tr D) m5 P4⟩
noncomputable def Cm (as:List α)(f:α->Rs β):Rs (List β):=match as with
 | []=>.ok []
 |a::as=>(f a).bind λb=>(Cm as f).bind λbs=>.ok (b::bs)
noncomputable def JP (as:List α)(f:α->Rs β):Rs (List β):=chk (as.length<=sizeLine) (Cm as f)
noncomputable def FG (as:List α)(c:α->Rs Bool)(f:α->Rs β):Rs (List β):=match as with
 | []=>.ok []
 |a::as=>(c a).bind λb=>if b=true then(f a).bind λb=>(FG as c f).bind λbs=>.ok (b::bs) else FG as c f
noncomputable def ES (as:List α)(c:α->Rs Bool)(f:α->Rs β):Rs (List β):=chk (as.length<=sizeLine) (FG as c f)
theorem PZ.chk {F:β->Hp->Prop}{H:Hp}{c:Prop}[Decidable c]{m:Rs β}(P:PZ Er F H (chk c m)):c/\PZ Er F H m:=by
 unfold L2.chk at P;split at P
 ·exact⟨by assumption,P⟩
 ·exact P.elim
theorem LI {o:OE α}[z:MonoO o]{xs:List V}{as:List α}{Cs:List (List XH)}{H H0:Hp}{Q:VK}(w:W (Cs.flatten::OO) H)(m0:Xz (hid H0 OO) (hid H (Cs.flatten::OO)))(s0:Xz H0 H)(pr:P3 (o K (hid H (Cs.flatten::OO))) xs as Cs)(P:FO K OO OO (oL o) Q as H0):∀p,H p=none->Q (.ref p) (upd H p (.lst xs)):=λp hp=>by
 have hn:=Jj (OO:=Cs.flatten::OO) hp (o:=.lst xs)
 have wn:=w.new hp (o:=.lst xs) rfl
 have pe:(((p,HO.lst xs)::Cs.flatten)::OO).flatten.Perm ([(p,HO.lst xs)]::Cs.flatten::OO).flatten:=by simp
 refine P (.ref p) ((p, .lst xs)::Cs.flatten) _ (s0.trans (XL hp _)) (wn.of pe) ?_ ?_
 ·rw[X8 pe];exact m0.trans hn
 ·rw[X8 pe]
  exact⟨p,xs,Cs,rfl,pr.imp λ_ _ _ h=>z.mono hn h,rfl⟩
theorem YC {o:OE β}[z:MonoO o]{wi:TI}{g:TG}{te:TE}{r:Enc α}{κ:Type}{m:Rs (List α)}{f:α->Rs β}{n:Nat}{caps:List (Nat×Str)}(T:∀OO,Tgt K OO g r κ)(he:Walk K Er S OO σ wi r m)
  (hb:∀C a v,Ev K Er ((T (C::OO)).sc a v S) (C::OO) (C::OO) ((T (C::OO)).set v (ZA n caps σ)) te o (f a)):Ev K Er S OO OO σ (Fk n caps wi g Kq te) (oL o) (m.bind λas=>JP as f):=λH Q w s P=>by
 refine he.ok w s ?_
 cases em:m with
 |bad=>rw[em] at P;exact P
 |err x=>rw[em] at P;exact P
 |ok as=>
  rw[em] at P
  obtain⟨hsz,P⟩:=PZ.chk (show PZ Er _ H (chk (as.length<=sizeLine) (Cm as f)) from P)
  intro It H' s' hgo hstop
  -- what is left: the rest of the items, then all
  refine⟨λi mm ys H2=>mm=as.length-i/\i<=as.length/\∃bs Cs,Xz H H2/\W (Cs.flatten::OO) H2/\Xz (hid H' OO) (hid H2 (Cs.flatten::OO))/\P3 (o K (hid H2 (Cs.flatten::OO))) ys bs Cs/\bs.length=i/\PZ Er (FO K OO OO (oL o) Q) H ((Cm (as.drop i) f).bind λrest=>.ok (bs++rest)),
   ⟨as.length,rfl,Nat.zero_le _,[],[],s',(w.keep s').nil,by show Xz _ (hid H' ([]::OO));rw[Zs];exact Xz.refl _, .nil,rfl,?_⟩,?_⟩
  ·rw[List.drop_zero]
   revert P
   cases Cm as f<;> exact λz=>z
  ·rintro i mm ys H2 ⟨rfl,hi,bs,Cs,s2,w2,m2,pr,hlen,P2⟩
   refine⟨by rw[pr.len.1,hlen];omega,?_⟩
   by_cases hlt:i<as.length
   ·right
    have ha:as[i]?=some as[i]:=by simp[hlt]
    obtain⟨h4,h5⟩:=hgo i _ ha (Cs.flatten::OO) H2 w2 m2
    refine⟨h4,λys' H3=>∃ bs Cs,Xz H H3/\W (Cs.flatten::OO) H3/\Xz (hid H' OO) (hid H3 (Cs.flatten::OO))/\P3 (o K (hid H3 (Cs.flatten::OO))) ys' bs Cs/\bs.length=i+1/\PZ Er (FO K OO OO (oL o) Q) H ((Cm (as.drop (i+1)) f).bind λrest=>.ok (bs++rest)),λys' H3 q=>⟨as.length-(i+1),Nat.sub_lt_sub_left hlt (Nat.lt_succ_self i),rfl,hlt,q⟩,λy H3 hy=>?_⟩
    obtain⟨s3,r3⟩:=h5 y H3 hy
    have w3:=w2.keep s3
    have m3:=Xk (OO:=Cs.flatten::OO) s3
    have sS:S.p (hid H3 (Cs.flatten::OO)):=S.mono _ _ ((Xk s').trans (m2.trans m3)) s
    refine(T (Cs.flatten::OO)).ok r3 sS λv hv=>?_
    show Kq _ _ _
    refine NP ?_
    rw[List.drop_eq_getElem_cons hlt] at P2
    have P3':PZ Er (FO K OO OO (oL o) Q) H ((f as[i]).bind λb=>(Cm (as.drop (i+1)) f).bind λrest=>.ok (bs++b::rest)):=by
     have:((f as[i]).bind λb=>(Cm (as.drop (i+1)) f).bind λrest=>Rs.ok (bs++b::rest))=(Cm (as[i]::as.drop (i+1)) f).bind λrest=>.ok (bs++rest):=by
      show _=((f as[i]).bind λb=>(Cm (as.drop (i+1)) f).bind λbs=>Rs.ok (b::bs)).bind _
      rw[YF];congr 1;funext b;rw[YF];rfl
     rw[this];exact P2
    refine hb Cs.flatten as[i] v H3 _ w3 hv ?_
    cases eb:f as[i] with
    |bad=>rw[eb] at P3';exact P3'
    |err x=>rw[eb] at P3';exact λH4 s4=>P3' H4 (s2.trans (s3.trans s4))
    |ok b=>
     rw[eb] at P3'
     intro v' C' H4 s4 w4 m4 ho
     have pe:((Cs++[C']).flatten::OO).flatten.Perm (C'::Cs.flatten::OO).flatten:=by
      simp only[Qe,List.flatten_cons]
      rw[List.append_assoc, ←List.append_assoc, ←List.append_assoc]
      exact List.perm_append_comm.append_right _
     refine⟨bs++[b],Cs++[C'],s2.trans (s3.trans s4),w4.of pe,?_,?_,by simp[hlen],?_⟩
     ·rw[X8 pe];exact m2.trans (m3.trans m4)
     ·rw[X8 pe];exact P3.snoc (pr.imp λ_ _ _ h=>z.mono (m3.trans m4) h) ho
     ·have P4:PZ Er (FO K OO OO (oL o) Q) H ((Cm (as.drop (i+1)) f).bind λrest=> .ok (bs++b::rest)):=P3'
      simpa using P4
   ·left
    have e:i=as.length:=Nat.le_antisymm hi (Nat.not_lt.mp hlt)
    subst e
    refine⟨hstop (Cs.flatten::OO) H2 w2 m2,?_⟩
    rw[List.drop_length] at P2
    have P3':FO K OO OO (oL o) Q (bs++[]) H:=P2
    rw[List.append_nil] at P3'
    exact LI (H0:=H) w2 ((Xk s').trans m2) s2 pr P3'
theorem QS {o:OE β}[z:MonoO o]{wi:TI}{g:TG}{tt:TT}{te:TE}{r:Enc α}{κ:Type}{m:Rs (List α)}{c:α->Rs Bool}{f:α->Rs β}{n:Nat}{caps:List (Nat×Str)}(T:∀OO,Tgt K OO g r κ)(he:Walk K Er S OO σ wi r m)
  (hc:∀C a v,EvT Er ((T (C::OO)).sc a v S) (C::OO) ((T (C::OO)).set v (ZA n caps σ)) tt (c a))
  (hb:∀C a v,Ev K Er ((T (C::OO)).sc a v S) (C::OO) (C::OO) ((T (C::OO)).set v (ZA n caps σ)) te o (f a)):Ev K Er S OO OO σ (Fk n caps wi g tt te) (oL o) (m.bind λas=>ES as c f):=λH Q w s P=>by
 refine he.ok w s ?_
 cases em:m with
 |bad=>rw[em] at P;exact P
 |err x=>rw[em] at P;exact P
 |ok as=>
  rw[em] at P
  obtain⟨hsz,P⟩:=PZ.chk (show PZ Er _ H (chk (as.length<=sizeLine) (FG as c f)) from P)
  intro It H' s' hgo hstop
  refine⟨λi mm ys H2=>mm=as.length-i/\i<=as.length/\∃bs Cs,Xz H H2/\W (Cs.flatten::OO) H2/\Xz (hid H' OO) (hid H2 (Cs.flatten::OO))/\P3 (o K (hid H2 (Cs.flatten::OO))) ys bs Cs/\bs.length<=i/\PZ Er (FO K OO OO (oL o) Q) H ((FG (as.drop i) c f).bind λrest=>.ok (bs++rest)),
   ⟨as.length,rfl,Nat.zero_le _,[],[],s',(w.keep s').nil,by show Xz _ (hid H' ([]::OO));rw[Zs];exact Xz.refl _, .nil,Nat.zero_le _,?_⟩,?_⟩
  ·rw[List.drop_zero]
   revert P
   cases FG as c f<;> exact λz=>z
  ·rintro i mm ys H2 ⟨rfl,hi,bs,Cs,s2,w2,m2,pr,hlen,P2⟩
   refine⟨by rw[pr.len.1];omega,?_⟩
   by_cases hlt:i<as.length
   ·right
    have ha:as[i]?=some as[i]:=by simp[hlt]
    obtain⟨h4,h5⟩:=hgo i _ ha (Cs.flatten::OO) H2 w2 m2
    refine⟨h4,λys' H3=>∃ bs Cs,Xz H H3/\W (Cs.flatten::OO) H3/\Xz (hid H' OO) (hid H3 (Cs.flatten::OO))/\P3 (o K (hid H3 (Cs.flatten::OO))) ys' bs Cs/\bs.length<=i+1/\PZ Er (FO K OO OO (oL o) Q) H ((FG (as.drop (i+1)) c f).bind λrest=>.ok (bs++rest)),λys' H3 q=>⟨as.length-(i+1),Nat.sub_lt_sub_left hlt (Nat.lt_succ_self i),rfl,hlt,q⟩,λy H3 hy=>?_⟩
    obtain⟨s3,r3⟩:=h5 y H3 hy
    have w3:=w2.keep s3
    have m3:=Xk (OO:=Cs.flatten::OO) s3
    have sS:S.p (hid H3 (Cs.flatten::OO)):=S.mono _ _ ((Xk s').trans (m2.trans m3)) s
    refine(T (Cs.flatten::OO)).ok r3 sS λv hv=>?_
    rw[List.drop_eq_getElem_cons hlt] at P2
    have P3':PZ Er (FO K OO OO (oL o) Q) H ((c as[i]).bind λb=>(if b=true then(f as[i]).bind λb=>(FG (as.drop (i+1)) c f).bind λbs=>.ok (b::bs) else FG (as.drop (i+1)) c f).bind λrest=>.ok (bs++rest)):=by
     rw[←YF];exact P2
    refine hc Cs.flatten as[i] v H3 _ w3 hv ?_
    cases ec:c as[i] with
    |bad=>rw[ec] at P3';exact P3'
    |err x=>rw[ec] at P3';exact λH4 s4=>P3' H4 (s2.trans (s3.trans s4))
    |ok b=>
     rw[ec] at P3'
     intro H4 s4
     have w4:=w3.keep s4
     have m4:=Xk (OO:=Cs.flatten::OO) s4
     cases b with
     |false=>exact⟨bs,Cs,s2.trans (s3.trans s4),w4,m2.trans (m3.trans m4),pr.imp λ_ _ _ h=>z.mono (m3.trans m4) h,Nat.le_succ_of_le hlen,P3'⟩
     |true=>
      rw[if_pos rfl]
      have P4:PZ Er (FO K OO OO (oL o) Q) H ((f as[i]).bind λb=>(FG (as.drop (i+1)) c f).bind λrest=>.ok (bs++b::rest)):=by
       have:((f as[i]).bind λb=>(FG (as.drop (i+1)) c f).bind λrest=>Rs.ok (bs++b::rest))=((f as[i]).bind λb=>(FG (as.drop (i+1)) c f).bind λbs=>Rs.ok (b::bs)).bind λrest=>.ok (bs++rest):=by
        rw[YF];congr 1;funext b;rw[YF];rfl
       rw[this];exact P3'
      refine hb Cs.flatten as[i] v H4 _ w4 (((T (Cs.flatten::OO)).sc as[i] v S).mono _ _ m4 hv) ?_
      cases eb:f as[i] with
      |bad=>rw[eb] at P4;exact P4
      |err x=>rw[eb] at P4;exact λH5 s5=>P4 H5 (s2.trans (s3.trans (s4.trans s5)))
      |ok b=>
       rw[eb] at P4
       intro v' C' H5 s5 w5 m5 ho
       have pe:((Cs++[C']).flatten::OO).flatten.Perm (C'::Cs.flatten::OO).flatten:=by
        simp only[Qe,List.flatten_cons]
        rw[List.append_assoc, ←List.append_assoc, ←List.append_assoc]
        exact List.perm_append_comm.append_right _
       refine⟨bs++[b],Cs++[C'],s2.trans (s3.trans (s4.trans s5)),w5.of pe,?_,?_,by simpa using hlen,?_⟩
       ·rw[X8 pe];exact m2.trans (m3.trans (m4.trans m5))
       ·rw[X8 pe];exact P3.snoc (pr.imp λ_ _ _ h=>z.mono (m3.trans (m4.trans m5)) h) ho
       ·have P5:PZ Er (FO K OO OO (oL o) Q) H ((FG (as.drop (i+1)) c f).bind λrest=> .ok (bs++b::rest)):=P4
        simpa using P5
   ·left
    have e:i=as.length:=Nat.le_antisymm hi (Nat.not_lt.mp hlt)
    subst e
    refine⟨hstop (Cs.flatten::OO) H2 w2 m2,?_⟩
    rw[List.drop_length] at P2
    have P3':FO K OO OO (oL o) Q (bs++[]) H:=P2
    rw[List.append_nil] at P3'
    exact LI (H0:=H) w2 ((Xk s').trans m2) s2 pr P3'
noncomputable def QO (as:List α)(i:Int)(a:α):Rs (List α):=match ixN as.length i with
 |some j=>.ok (as.set j a)
 |none=>.bad
end
section
variable {K:PySem.W.Frag}{Er:Exc->Hp->Prop}{S:SC}{OO OO' OO2:List (List XH)}{σ:St}{α β γ ρ ι δ ε:Type}
variable {Fd:Ends->β->Hp->Prop}[fd:FdOk Fd]{u:TS}
theorem LN {C D C':List XH}{H:Hp}{k:Nat}{p:Addr}{o:HO}(w:W (D::OO) H)(hk:OO[k]?=some C)(hp:p∈C.map (·.1))(hp':p∈C'.map (·.1))(hnd:(C'.map (·.1)).Nodup)(hin:∀b∈C'.map (·.1),b∈(C++D).map (·.1))(ht:∀c∈C',upd H p o c.1=some c.2)(hm:∀c∈C',Mp c.2=true):
  W (OO.set k C') (upd H p o)/\Xz (hid H (D::OO)) (hid (upd H p o) (OO.set k C')):=by
 have hlt:k<OO.length:=by
  rcases Nat.lt_or_ge k OO.length with h |h
  ·exact h
  ·rw[List.getElem?_eq_none h] at hk;cases hk
 have h1:=Ye hk
 have h2:=Ye (OO:=OO.set k C') (k:=k) (C:=C') (by simp[hlt])
 rw[U6] at h2
 have h3:(OO.set k C').flatten.Perm (C'++(OO.set k []).flatten):=by simpa using h2.symm
 have h4:(D::OO).flatten.Perm ((C++D)++(OO.set k []).flatten):=by
  rw[List.flatten_cons]
  refine((by simpa using h1.symm:OO.flatten.Perm (C++(OO.set k []).flatten)).append_left D).trans ?_
  rw[←List.append_assoc]
  exact List.perm_append_comm.append_right _
 have nd2:(((C++D)++(OO.set k []).flatten).map (·.1)).Nodup:=(h4.map _).nodup_iff.mp w.nd
 rw[List.map_append] at nd2
 obtain⟨n1,n2,n3⟩:=List.nodup_append.mp nd2
 refine⟨⟨λc hc=>?_,?_,λc hc=>?_⟩,λb v q=>?_⟩
 ·rcases List.mem_append.mp (h3.mem_iff.mp hc) with hc |hc
  ·exact ht c hc
  ·have hne:c.1≠p:=λe=>n3 p (hin p hp') c.1 (List.mem_map.mpr ⟨c,hc,rfl⟩) e.symm
   rw[XA hne]
   exact w.tr c (h4.mem_iff.mpr (by simp[hc]))
 ·refine((h3.map _).nodup_iff).mpr ?_
  rw[List.map_append]
  exact List.nodup_append.mpr ⟨hnd,n2,λa ha b hb=>n3 a (hin a ha) b hb⟩
 ·rcases List.mem_append.mp (h3.mem_iff.mp hc) with hc |hc
  ·exact hm c hc
  ·exact w.mu c (h4.mem_iff.mpr (by simp[hc]))
 ·obtain⟨q1,q2⟩:=X5 q
  have hbp:b≠p:=λe=>q2 (by
   rw[e]
   obtain⟨c,hc,rfl⟩:=List.mem_map.mp hp
   exact Vn (h4.mem_iff.mpr (by simp[hc])))
  refine Zz (by rw[XA hbp];exact q1) λz=>q2 ?_
  obtain⟨o',ho'⟩:=Bs z
  rcases List.mem_append.mp (h3.mem_iff.mp ho') with hc |hc
  ·obtain⟨c,hc2,e⟩:=List.mem_map.mp (hin b (List.mem_map.mpr ⟨_,hc,rfl⟩))
   rw[←e]
   exact Vn (h4.mem_iff.mpr (List.mem_append_left _ hc2))
  ·exact Vn (c:=(b,o')) (h4.mem_iff.mpr (by simp[hc]))
theorem MN {D:List XH}{Cs Cs':List (List XH)}{H:Hp}{k:Nat}{p:Addr}{xs xs':List V}(w:W (D::OO) H)(hk:OO[k]?=some ((p, .lst xs)::Cs.flatten))(hin:∀c∈Cs'.flatten,c∈Cs.flatten++D)(hnd:(Cs'.flatten.map (·.1)).Nodup):
  W (OO.set k ((p, .lst xs')::Cs'.flatten)) (upd H p (.lst xs'))/\Xz (hid H (D::OO)) (hid (upd H p (.lst xs')) (OO.set k ((p, .lst xs')::Cs'.flatten))):=by
 have h1:=Ye hk
 have w3:W [((p,HO.lst xs)::(Cs.flatten++D))++(OO.set k []).flatten] H:=w.of (by
  simp only[List.flatten_cons,List.flatten_nil,List.append_nil]
  refine List.Perm.trans ?_ ((by simpa using h1:(((p,HO.lst xs)::Cs.flatten)++(OO.set k []).flatten).Perm OO.flatten).append_left D)
  rw[←List.append_assoc]
  refine List.Perm.append_right _ ?_
  exact(List.perm_append_comm (l₁:=(p,HO.lst xs)::Cs.flatten) (l₂:=D)))
 have nd:=w3.nd
 simp only[fl,List.flatten_cons,List.flatten_nil,List.append_nil,List.map_append,List.cons_append,List.map_cons] at nd
 have hne:∀c∈Cs'.flatten,c.1≠p:=λc hc e=>by
  refine(List.nodup_cons.mp nd).1 ?_
  rw[←e]
  refine List.mem_append_left _ ?_
  rw[←List.map_append]
  exact List.mem_map.mpr ⟨c,hin c hc,rfl⟩
 refine LN w hk List.mem_cons_self List.mem_cons_self ?_ ?_ ?_ ?_
 ·rw[List.map_cons,List.nodup_cons]
  refine⟨λz=>?_,hnd⟩
  obtain⟨c,hc,e⟩:=List.mem_map.mp z
  exact hne c hc e
 ·intro b hb
  rcases List.mem_cons.mp hb with rfl |hb
  ·exact List.mem_cons_self
  ·obtain⟨c,hc,rfl⟩:=List.mem_map.mp hb
   rw[List.cons_append,List.map_cons]
   exact List.mem_cons_of_mem _ (List.mem_map.mpr ⟨c,hin c hc,rfl⟩)
 ·intro c hc
  rcases List.mem_cons.mp hc with rfl |hc
  ·exact YB
  ·rw[XA (hne c hc)]
   exact w3.tr c (by
    rw[List.flatten_cons,List.flatten_nil,List.append_nil]
    exact List.mem_append_left _ (List.mem_cons_of_mem _ (hin c hc)))
 ·intro c hc
  rcases List.mem_cons.mp hc with rfl |hc
  ·rfl
  ·exact w3.mu c (by
    rw[List.flatten_cons,List.flatten_nil,List.append_nil]
    exact List.mem_append_left _ (List.mem_cons_of_mem _ (hin c hc)))
theorem GP {o:OE α}{h:Hp}{p:Addr}{xs:List V}{as:List α}{R:List XH}(q:oL o K h (.ref p) as ((p, .lst xs)::R)):∃Cs,P3 (o K h) xs as Cs/\R=Cs.flatten:=by
 obtain⟨p',xs',Cs,e,q,c⟩:=q
 injection c with c1 c2
 injection c1 with c3 c4
 injection c4 with c5
 subst c5
 exact⟨Cs,q,c2⟩
theorem LQ {as:List α}{i:Int}{a:α}{bs:List α}(h:QO as i a= .ok bs):∃j,ixN as.length i=some j/\bs=as.set j a:=by
 unfold QO at h;split at h
 ·cases h;exact⟨_,by assumption,rfl⟩
 ·cases h
theorem I0 {as:List α}{i:Int}{a:α}{x:Exc}:QO as i a≠ .err x:=by unfold QO;split<;> exact λz=>nomatch z
theorem Qf {l r m:List XH}(h:(l++r).Perm m)(n:(m.map (·.1)).Nodup):(l.map (·.1)).Nodup:=by
 have:((l++r).map (·.1)).Nodup:=(h.map _).nodup_iff.mpr n
 rw[List.map_append] at this
 exact(List.nodup_append.mp this).1
theorem Ki {Cs:List (List XH)}{j:Nat}{D:List XH}(hj:j<Cs.length):((Cs.set j D).flatten++Cs[j]).Perm (Cs.flatten++D):=by
 have h1:=Ye (OO:=Cs) (k:=j) (C:=Cs[j]) (by simp[hj])
 have h2:=Ye (OO:=Cs.set j D) (k:=j) (C:=D) (by simp[hj])
 rw[U6] at h2
 have h3:(Cs.set j D).flatten.Perm (D++(Cs.set j []).flatten):=by simpa using h2.symm
 have h4:Cs.flatten.Perm (Cs[j]++(Cs.set j []).flatten):=by simpa using h1.symm
 refine(h3.append_right _).trans (List.Perm.trans ?_ (h4.append_right _).symm)
 refine List.perm_append_comm.trans ((List.perm_append_comm.append_left _).trans ?_)
 rw[List.append_assoc]
theorem Qx {D:List XH}{Cs:List (List XH)}{H:Hp}{k:Nat}{p:Addr}{xs:List V}(w:W (D::OO) H)(hk:OO[k]?=some ((p, .lst xs)::Cs.flatten)):((Cs.flatten++D).map (·.1)).Nodup:=by
 have h1:=Ye hk
 have w3:W [((p,HO.lst xs)::(Cs.flatten++D))++(OO.set k []).flatten] H:=w.of (by
  simp only[List.flatten_cons,List.flatten_nil,List.append_nil]
  refine List.Perm.trans ?_ ((by simpa using h1:(((p,HO.lst xs)::Cs.flatten)++(OO.set k []).flatten).Perm OO.flatten).append_left D)
  rw[←List.append_assoc]
  refine List.Perm.append_right _ ?_
  exact(List.perm_append_comm (l₁:=(p,HO.lst xs)::Cs.flatten) (l₂:=D)))
 have nd:=w3.nd
 simp only[fl,List.flatten_cons,List.flatten_nil,List.append_nil,List.cons_append,List.map_cons] at nd
 have n2:=(List.nodup_cons.mp nd).2
 rw[List.map_append] at n2
 exact(List.nodup_append.mp n2).1
theorem Qi {ta ti:TE}{o:OE α}[MonoO o]{m:Rs α}{mi:Rs Int}{f:List α->Rs β}{v:V}{as:List α}{C:List XH}(i k:Nat)(hσ:σ[i]?=some (some v))(hk':OO'[k]?=some C)(h:∀x,S.p x->oL o K x v as C)(he:Ev K Er S OO OO' σ ta o m)
  (hi:∀D,EvB K Er S (D::OO') σ ti Xa mi)
  (hr:∀bs C',Sv Er (S.addO K (oL o) v bs C') (OO'.set k C') σ u Fd (f bs)):Sv Er S OO σ (Vi (Ir ta (OB (GF i) ti IZ)) u) Fd (m.bind λa=>mi.bind λj=>(QO as j a).bind f):=λH D w s P=>
 he.st w s P λa y D' H' w' s' ho P'=>⟨v,hσ,(hi D').st w' s' P' λj z H2 s2 w2 q2 r2 P2=>by
  obtain⟨p,xs,Cs,e,q,c⟩:=h _ q2
  subst c
  have hH:H2 p=some (.lst xs):=w2.tr (p, .lst xs) (by rw[List.flatten_cons];exact List.mem_append_right _ (List.mem_flatten.mpr ⟨_,List.mem_of_getElem? hk',List.mem_cons_self⟩))
  cases es:QO as j a with
  |bad=>rw[es] at P2;exact P2.elim
  |err x=>exact absurd es I0
  |ok bs=>
   rw[es] at P2
   obtain⟨jj,h1,rfl⟩:=LQ es
   have hjl:jj<as.length:=by
    unfold ixN at h1
    split at h1
    ·split at h1
     ·cases h1;omega
     ·cases h1
    ·split at h1
     ·cases h1;omega
     ·cases h1
   have hjC:jj<Cs.length:=by rw[q.len.2];exact hjl
   have hp:=Ki (Cs:=Cs) (j:=jj) (D:=D') hjC
   obtain⟨w3,m3⟩:=MN (xs':=xs.set jj y) (Cs':=Cs.set jj D') w2 hk' (λc hc=>hp.mem_iff.mp (List.mem_append_left _ hc)) (Qf hp (Qx w2 hk'))
   refine⟨p,xs,j,jj,e,r2,hH,by rw[q.len.1];exact h1,hr _ _ _ D w3 ⟨S.mono _ _ m3 q2,⟨p,_,_,e,P3.imp (λ_ _ _ z=>MonoO.mono m3 z) (P3.set (MonoO.mono (Xk s2) ho) jj q),rfl⟩⟩ (PZ.tr (fd.tr D) m3 P2)⟩⟩
theorem Nr {ta:TE}{o:OE α}[MonoO o]{m:Rs (List α)}{f:List α->Rs β}{v:V}{as:List α}{C:List XH}(i k:Nat)(hσ:σ[i]?=some (some v))(hk:OO[k]?=some C)(hk':OO'[k]?=some C)(h:∀x,S.p x->oL o K x v as C)(he:Ev K Er S OO OO' σ ta (oL o) m)
  (hr:∀bs C',Sv Er (S.addO K (oL o) v (as++bs) C') (OO'.set k C') σ u Fd (f (as++bs))):Sv Er S OO σ (Vi (DY (tBM K "list" BO (GF i) (X2 ta QV))) u) Fd (m.bind λbs=>chk (as.length+bs.length<=sizeLine) (f (as++bs))):=λH D w s P=>by
 obtain⟨p,xs,Cs,e,q,c⟩:=h _ s
 subst c
 have hH:H p=some (.lst xs):=w.tr (p, .lst xs) (List.mem_flatten.mpr ⟨_,List.mem_of_getElem? hk,List.mem_cons_self⟩)
 refine⟨v,hσ,by rw[e];exact .inl ⟨rfl,_,SqL.of hH⟩,he.st w s P λbs y D' H' w' s' ho P'=>?_⟩
 obtain⟨hsz,P'⟩:=PZ.chk P'
 subst e
 obtain⟨Cs2,q2,c2⟩:=GP (h _ s')
 obtain⟨p',zs,Ds,e3,q3,c3⟩:=ho
 subst c3
 have hH':H' p=some (.lst xs):=w'.tr (p, .lst xs) (by rw[List.flatten_cons];exact List.mem_append_right _ (List.mem_flatten.mpr ⟨_,List.mem_of_getElem? hk',List.mem_cons_self⟩))
 have hH2:H' p'=some (.lst zs):=w'.tr (p', .lst zs) (by rw[List.flatten_cons];exact List.mem_append_left _ List.mem_cons_self)
 have cn:=Qx w' hk'
 obtain⟨w3,m3⟩:=MN (xs':=xs++zs) (Cs':=Cs2++Ds) w' hk' (λc hc=>by
   rw[List.flatten_append,List.mem_append] at hc
   rcases hc with hc |hc
   ·rw[c2];exact List.mem_append_left _ hc
   ·exact List.mem_append_right _ (List.mem_cons_of_mem _ hc)) (by
   rw[List.flatten_append, ←c2]
   refine List.Nodup.sublist (List.Sublist.map _ ?_) cn
   exact List.Sublist.append (List.Sublist.refl _) (List.sublist_cons_self _ _))
 refine⟨p,p',xs,zs,rfl,by rw[e3],hH',hH2,by rw[q2.len.1,q3.len.1];exact hsz,?_⟩
 exact hr bs _ _ D w3 ⟨S.mono _ _ m3 s',⟨p,_,_,rfl,P3.imp (λ_ _ _ z=>MonoO.mono m3 z) (q2.app q3),rfl⟩⟩ (PZ.tr (fd.tr D) m3 P')
noncomputable def Ef (as:List α)(i:Int):Rs (α×List α):=chk (-(2^63)<=i/\i<2^63) (match seqIndex? i as.length with
 |none=>.bad
 |some k=>match as[k]? with
  |none=>.bad
  |some a=>.ok (a,as.eraseIdx k))
theorem LD {as:List α}{i:Int}{p:α×List α}(h:Ef as i= .ok p):(-(2^63)<=i/\i<2^63)/\∃k,seqIndex? i as.length=some k/\as[k]?=some p.1/\p.2=as.eraseIdx k:=by
 obtain⟨h1,h2⟩:=ZD h
 refine⟨h1,?_⟩
 split at h2
 ·cases h2
 ·split at h2
  ·cases h2
  ·cases h2;exact⟨_,by assumption,by assumption,rfl⟩
theorem Mg {as:List α}{i:Int}{x:Exc}:Ef as i≠ .err x:=by
 unfold Ef chk;split
 ·split
  ·exact λz=>nomatch z
  ·split<;> exact λz=>nomatch z
 ·exact λz=>nomatch z
theorem Paired.erase' {F:α->γ->Prop}:∀{l:List α}{m:List γ} (n:Nat),Paired F l m->Paired F (l.eraseIdx n) (m.eraseIdx n)
 |_,_,_, .nil=>.nil
 |_,_,0, .cons _ t=>t
 |_,_,n+1, .cons r t=>.cons r (Paired.erase' n t)
theorem By {te ti:TE}{r:Enc α}[MonoE r]{mi:Rs Int}{f:α×List α->Rs β}{v:V}{as:List α}{C:List XH}{D:Ends}{H:Hp}{Q:VK}(i k:Nat)(hσ:σ[i]?=some (some v))(hk:OO[k]?=some C)(h:∀x,S.p x->oL (oF r) K x v as C)(hi:EvB K Er S OO σ ti Xa mi)
  (w:W OO H)(s:S.p (hid H OO))(P:PZ Er (Fd D) (hid H OO) (mi.bind λj=>(Ef as j).bind f))
  (hr:∀a bs y C' H',W (OO.set k C') H'->((S.add K r y a).addO K (oL (oF r)) v bs C').p (hid H' (OO.set k C'))->PZ Er (Fd D) (hid H' (OO.set k C')) (f (a,bs))->Q y H'):tBM K "list" FY (GF i) (X2 ti QV) σ H Q:=by
 obtain⟨p,xs,Cs,e,q,c⟩:=h _ s
 subst c
 have hH:H p=some (.lst xs):=w.tr (p, .lst xs) (List.mem_flatten.mpr ⟨_,List.mem_of_getElem? hk,List.mem_cons_self⟩)
 refine⟨v,hσ,by rw[e];exact .inl ⟨rfl,_,SqL.of hH⟩,hi.st w s P λj z H' s1 w' s' ho P'=>?_⟩
 subst e
 obtain⟨Cs2,q2,c2⟩:=GP (h _ s')
 obtain⟨pr,hfl⟩:=P3.flat q2
 cases es:Ef as j with
 |bad=>rw[es] at P';exact P'.elim
 |err x=>exact absurd es Mg
 |ok pp=>
  rw[es] at P'
  obtain⟨a,bs⟩:=pp
  obtain⟨h1,kk,h2,h3,h4⟩:=LD es
  obtain⟨y,hy,ry⟩:=Paired.getR pr h3
  have w0:W ([]::OO) H':=w'.nil
  have hk0:OO[k]?=some ((p, .lst xs)::([]:List (List XH)).flatten):=by rw[hk,c2,hfl];rfl
  obtain⟨w3,m3⟩:=MN (D:=[]) (Cs:=[]) (xs':=xs.eraseIdx kk) (Cs':=List.replicate bs.length []) w0 hk0 (λc hc=>by rw[Y5] at hc;cases hc) (by rw[Y5];exact List.nodup_nil)
  rw[Zs] at m3
  refine⟨p,xs,j,kk,y,rfl,by rw[show z= .int j from ho],s1 _ _ hH,h1.1,h1.2,by rw[Paired.len pr];exact h2,hy,?_⟩
  have pr2:Paired (r K (hid H' OO)) (xs.eraseIdx kk) bs:=by rw[show bs=as.eraseIdx kk from h4];exact Paired.erase' kk pr
  exact hr a bs y _ _ w3 ⟨⟨S.mono _ _ m3 s',MonoE.mono m3 ry⟩,⟨p,_,_,rfl,(P3.of (Paired.imp2 (λ_ _ z=>MonoE.mono m3 z) pr2)).imp λ_ _ _ z=>z,rfl⟩⟩ (PZ.tr (fd.tr D) m3 P')
theorem NF {ti:TE}{r:Enc α}[MonoE r]{mi:Rs Int}{f:α×List α->Rs β}{v:V}{as:List α}{C:List XH}(x i k:Nat)(hσ:σ[i]?=some (some v))(hk:OO[k]?=some C)(h:∀x,S.p x->oL (oF r) K x v as C)(hi:EvB K Er S OO σ ti Xa mi)
  (hr:∀a bs y C',Sv Er ((S.add K r y a).addO K (oL (oF r)) v bs C') (OO.set k C') (σ.set x (some y)) u Fd (f (a,bs))):Sv Er S OO σ (Vi (Ir (tBM K "list" FY (GF i) (X2 ti QV)) (ZB x)) u) Fd (mi.bind λj=>(Ef as j).bind f):=λH D w s P=>
 By (te:=ti) i k hσ hk h hi w s P λa bs y C' H' w' s' P'=>hr a bs y C' H' D w' s' P'
theorem E8 {ti:TE}{r:Enc α}[MonoE r]{mi:Rs Int}{f:List α->List α->Rs β}{v v2:V}{as zs:List α}{C C2:List XH}(i k i2 k2:Nat)(hne:k2≠k)(hσ:σ[i]?=some (some v))(hk:OO[k]?=some C)(h:∀x,S.p x->oL (oF r) K x v as C)
  (hσ2:σ[i2]?=some (some v2))(hk2:OO[k2]?=some C2)(h2:∀x,S.p x->oL (oF r) K x v2 zs C2)(hi:EvB K Er S OO σ ti Xa mi)
  (hr:∀a bs C' C2',Sv Er ((S.addO K (oL (oF r)) v bs C').addO K (oL (oF r)) v2 (zs++[a]) C2') ((OO.set k C').set k2 C2') σ u Fd (f bs (zs++[a]))):
  Sv Er S OO σ (Vi (DY (tBM K "list" Kx (GF i2) (X2 (tBM K "list" FY (GF i) (X2 ti QV)) QV))) u) Fd (mi.bind λj=>(Ef as j).bind λp=>chk (zs.length<sizeLine) (f p.2 (zs++[p.1]))):=λH D w s P=>by
 obtain⟨p2,xs2,Cs2,e2,q2,c2⟩:=h2 _ s
 subst c2
 have hH2:H p2=some (.lst xs2):=w.tr (p2, .lst xs2) (List.mem_flatten.mpr ⟨_,List.mem_of_getElem? hk2,List.mem_cons_self⟩)
 refine⟨v2,hσ2,by rw[e2];exact .inl ⟨rfl,_,SqL.of hH2⟩,By (te:=ti) i k hσ hk h hi w s P λa bs y C' H' w' s' P'=>?_⟩
 obtain⟨hsz,P'⟩:=PZ.chk P'
 subst e2
 obtain⟨Cs3,q3,c3⟩:=GP (h2 _ s'.1.1)
 obtain⟨pr,hfl⟩:=P3.flat q3
 have hkk:(OO.set k C')[k2]?=some ((p2,HO.lst xs2)::([]:List (List XH)).flatten):=by
  rw[List.getElem?_set_ne (λe=>hne e.symm),hk2,c3,hfl];rfl
 have hH3:H' p2=some (.lst xs2):=w'.tr (p2, .lst xs2) (List.mem_flatten.mpr ⟨_,List.mem_of_getElem? hkk,List.mem_cons_self⟩)
 obtain⟨w3,m3⟩:=MN (D:=[]) (Cs:=[]) (xs':=xs2++[y]) (Cs':=List.replicate (zs++[a]).length []) w'.nil hkk (λc hc=>by rw[Y5] at hc;cases hc) (by rw[Y5];exact List.nodup_nil)
 rw[Zs] at m3
 refine⟨p2,xs2,y,rfl,rfl,hH3,by rw[Paired.len pr];exact hsz,?_⟩
 refine hr a bs C' _ _ D w3 ⟨⟨S.mono _ _ m3 s'.1.1,(SC.oneO K (oL (oF r)) v bs C').mono _ _ m3 s'.2⟩,⟨p2,_,_,rfl,(P3.of (Paired.app (Paired.imp2 (λ_ _ z=>MonoE.mono m3 z) pr) (.cons (MonoE.mono m3 (show r K _ y a from s'.1.2)) .nil))).imp λ_ _ _ z=>z,rfl⟩⟩ (PZ.tr (fd.tr D) m3 P')
theorem II {ta tb:TE}{r:Enc α}{q:Enc γ}[z:MonoE r][MonoE q]{ma:Rs α}{mb:Rs γ}{f:α->γ->Rs β}(i j:Nat)(ha:EvS K Er S OO σ ta r ma)(hb:EvS K Er S OO σ tb q mb)
  (hr:∀a b v w,Sv Er ((S.add K r v a).add K q w b) OO ((σ.set i (some v)).set j (some w)) u Fd (f a b)):Sv Er S OO σ (Vi (OI i j (X2 ta (X2 tb QV))) u) Fd (ma.bind λa=>mb.bind λb=>f a b):=λH D w s P=>
 ha.st w s P λa x H1 s1 w1 q1 r1 P1=>hb.st w1 q1 P1 λb y H2 s2 w2 q2 r2 P2=>⟨x,y,rfl,hr a b x y H2 D w2 ⟨⟨q2,z.mono (Xk s2) r1⟩,r2⟩ P2⟩
theorem BI {te:TE}{r:Enc α}{q:Enc γ}[MonoE r][MonoE q]{m:Rs (α×γ)}{f:α×γ->Rs β}(i j:Nat)(he:EvS K Er S OO σ te (rP2 r q) m)
  (hr:∀a v w,Sv Er ((S.add K r v a.1).add K q w a.2) OO ((σ.set i (some v)).set j (some w)) u Fd (f a)):Sv Er S OO σ (Vi (Ir te (Ie K 2 (Qz (ZB i) (Qz (ZB j) IV)))) u) Fd (m.bind f):=λH D w s P=>
 he.st w s P λa v H1 s1 w1 q1 r9 P1=>by obtain⟨p,x,y,e,h,h1,h2⟩:=r9;exact⟨p,_,e,SqT.of (Xx _ _ h),rfl,x,[y],rfl,y,[],rfl,rfl,hr a x y H1 D w1 ⟨⟨q1,h1⟩,h2⟩ P1⟩
theorem Ed {te:TE}{g:Int->Int->Int}{m:Rs Int}{f:Int->Rs β}{v:V}{a:Int}(i:Nat)(hσ:σ[i]?=some (some v))(h:∀x,S.p x->Xa K x v a)(he:EvB K Er S OO σ te Xa m)
  (hr:∀b v,Sv Er (S.add K Xa v b) OO (σ.set i (some v)) u Fd (f b)):Sv Er S OO σ (Vi (NZ i te (ipI g)) u) Fd (m.bind λb=>f (g a b)):=λH D w s P=>
 ⟨v,hσ,he.st w s P λb y H1 s1 w1 q1 r1 P1=>⟨a,b,h _ s,r1,hr _ _ H1 D w1 ⟨q1,rfl⟩ P1⟩⟩
theorem Kv {ta tb:TE}{ma mb:Rs Int}(ha:EvB K Er S OO σ ta Xa ma)(hb:EvB K Er S OO σ tb Xa mb):EvB K Er S OO σ (tCB (λxs H Q=>∃ i j:Int,xs=[.int i, .int j]/\Q (.int (if j > i then j else i)) H) (X2 ta (X2 tb QV))) Xa (ma.bind λa=>mb.bind λb=>.ok (max a b)):=λH Q w s P=>
 ha.run w s FB.tr P λa x H1 s1 w1 q1 r1 P1=>hb.run w1 q1 FB.tr P1 λb y H2 s2 w2 q2 r2 P2=>⟨a,b,by rw[show x= .int a from r1,show y= .int b from r2],P2 _ H2 (Xz.refl _) (by show V.int _=V.int _;congr 1;omega)⟩
theorem Ls {ta tb:TE}{ma mb:Rs Int}(ha:EvB K Er S OO σ ta Xa ma)(hb:EvB K Er S OO σ tb Xa mb):EvB K Er S OO σ (tCB (λxs H Q=>∃ i j:Int,xs=[.int i, .int j]/\Q (.int (if j<i then j else i)) H) (X2 ta (X2 tb QV))) Xa (ma.bind λa=>mb.bind λb=>.ok (min a b)):=λH Q w s P=>
 ha.run w s FB.tr P λa x H1 s1 w1 q1 r1 P1=>hb.run w1 q1 FB.tr P1 λb y H2 s2 w2 q2 r2 P2=>⟨a,b,by rw[show x= .int a from r1,show y= .int b from r2],P2 _ H2 (Xz.refl _) (by show V.int _=V.int _;congr 1;omega)⟩
theorem Fj {ta:TE}{ma:Rs (List Int)}(ha:EvB K Er S OO σ ta (rV Xa) ma):EvB K Er S OO σ (tCB (OS K) (X2 ta QV)) Xa (ma.bind λa=>.ok a.sum):=λH Q w s P=>
 ha.run w s FB.tr P λa x H1 s1 w1 q1 r9 P1=>by obtain⟨p,xs,e,q,pr⟩:=r9;exact⟨p,a,by rw[e],by rw[←Jp pr];exact SqL.of q,P1 _ H1 (Xz.refl _) rfl⟩
theorem Vf:∀{xs:List V}{bs:List Bool}{H:Hp},Paired (X0 K H) xs bs->xs=bs.map V.bl
 |_,_,_, .nil=>rfl
 |_,_,_, .cons r t=>by rw[show _=V.bl _ from r,Vf t];rfl
theorem C6 {ta:TE}{ma:Rs (List Bool)}(ha:EvB K Er S OO σ ta (rV X0) ma):EvB K Er S OO σ (tCB (OR K) (X2 ta QV)) X0 (ma.bind λa=>.ok (a.all id)):=λH Q w s P=>
 ha.run w s FB.tr P λa x H1 s1 w1 q1 r9 P1=>by obtain⟨p,xs,e,q,pr⟩:=r9;exact⟨p,a,by rw[e],by rw[←Vf pr];exact SqL.of q,P1 _ H1 (Xz.refl _) rfl⟩
class TyE {α:Type}(r:Enc α)(n:outParam String):Prop where
 ty:∀{K:PySem.W.Frag}{H:Hp}{v:V}{a:α},r K H v a->TyOf K H v (.type n)
instance:TyE Xa "int":=⟨fun {K H v a} h=>by cases(show v= .int a from h);exact .int a⟩
instance:TyE X0 "bool":=⟨fun {K H v a} h=>by cases(show v= .bl a from h);exact .bl a⟩
instance {r:Enc α}:TyE (rV r) "list":=⟨λr9=>by obtain⟨p,xs,e,q,_⟩:=r9;exact by subst e;exact .lst q⟩
instance {r:Enc α}:TyE (rPL r) "tuple":=⟨λr9=>by obtain⟨p,xs,e,q,_⟩:=r9;exact by subst e;exact .tup q⟩
instance {r:Enc α}{q:Enc γ}:TyE (rP2 r q) "tuple":=⟨λr9=>by obtain⟨p,x,y,e,q,_⟩:=r9;exact by subst e;exact .tup q⟩
instance {r:Enc α}{q:Enc γ}{t:Enc δ}:TyE (rP3 r q t) "tuple":=⟨λr9=>by obtain⟨p,x,y,z,e,q,_⟩:=r9;exact by subst e;exact .tup q⟩
theorem UN {te:TE}{r:Enc α}{n:String}[z:TyE r n]{m:Rs α}(t:String)(b:Bool)(hk:PySem.W.kitOne K (.type n) (.type t)=some b)(he:EvB K Er S OO σ te r m):
  EvB K Er S OO σ (tCB (λxs H Q=>∃ x n t b,xs=[x, .ty n]/\TyOf K H x t/\PySem.W.kitOne K t (.type n)=some b/\Q (.bl b) H) (X2 te (X2 (tC (.ty t)) QV))) X0 (m.bind λ_=>.ok b):=λH Q w s P=>
 he.run w s FB.tr P λa x H1 s1 w1 q1 r1 P1=>⟨x,t, .type n,b,rfl,z.ty r1,hk,P1 _ H1 (Xz.refl _) rfl⟩
end
section
variable {K:PySem.W.Frag}{Er:Exc->Hp->Prop}{S:SC}{OO OO' OO1 OO2:List (List XH)}{σ:St}{α β γ ρ ι δ ε:Type}
variable {Fd:Ends->β->Hp->Prop}[fd:FdOk Fd]{u:TS}
theorem MK (n:Nat)(H:Hp):W (List.replicate n []) H:=⟨λc hc=>(by rw[Y5] at hc;cases hc),(by unfold fl;rw[Y5];exact List.nodup_nil),λc hc=>(by rw[Y5] at hc;cases hc)⟩
theorem HH (n:Nat)(H:Hp):hid H (List.replicate n [])=H:=by funext b;unfold hid fl;rw[Y5];simp
theorem Nf {o:OE ρ}[z:MonoO o]{Q:VK}{b:ρ}{H:Hp}(q:FF K o Q b H):∀v C OO' H',W (C::OO') H'->Xz H (hid H' (C::OO'))->o K (hid H' (C::OO')) v b C->Q v H':=λv C OO' H' w m ho=>by
 have hs:Xz (hid H' (C::OO')) (hid H' [C]):=QL (Xz.refl _) λb hb=>by
  rw[X4]
  refine List.mem_append_left _ ?_
  simpa[fl] using hb
 exact q v C H' (w.sub (by simp)) (m.trans hs) (z.mono hs ho)
theorem Yk {o:OE ρ}[MonoO o]{t:TS}{m:Rs ρ}{Q:VK}{b:ρ}{H:Hp}{D:Ends}(n:Nat)(h:Sv (λ_ _=>False) S (List.replicate n []) σ t (FTd K o) m)(hs:S.p H)(hm:m= .ok b)(q:FF K o Q b H)(hD:D.rt=Q):t D σ H:=by
 refine h H D (MK n H) (by rw[HH];exact hs) ?_
 subst hm
 rw[HH]
 intro v C OO' H' w mm ho
 rw[hD]
 exact Nf q v C OO' H' w mm ho
noncomputable def oU:OE Unit:=λ_ _ v _ C=>v= .non/\C=[]
instance:MonoO oU:=⟨λ_ h=>h⟩
instance:FlatO oU:=⟨λ_ h=>h⟩
noncomputable def rU0:Enc Unit:=λ_ _ v _=>v= .non
instance:FlatE rU0:=⟨λ_ h=>h⟩
instance:FrzC oU rU0:=⟨λh _ _=>h.1⟩
theorem L7 {J:Jn Unit ι}{t:TS}{m:Rs Unit}{Q:VK}{b:Unit}{H:Hp}{D:Ends}(n:Nat)(h:Sv (λ_ _=>False) S (List.replicate n []) σ t (FNd J) m)(hs:S.p H)(hm:m= .ok b)(q:FF K oU Q b H)(hD:∀σ H,D.nx σ H=Q .non H):t D σ H:=by
 refine h H D (MK n H) (by rw[HH];exact hs) ?_
 subst hm
 rw[HH]
 intro x H' w mm ho
 rw[hD]
 have hs:Xz (hid H' (J.oo x)) (hid H' [[]]):=QL (Xz.refl _) λb hb=>by simp[fl] at hb
 exact q .non [] H' ⟨λc hc=>by simp at hc,by simp[fl],λc hc=>by simp at hc⟩ (mm.trans hs) ⟨rfl,rfl⟩
theorem GJ {t:TS}{m:Rs β}(k:Nat)(hr:Sv Er S (OO.set k []) σ t Fd m):Sv Er S OO σ t Fd m:=λH D w s P=>by
 cases hk:OO[k]? with
 |none=>
  rw[List.set_eq_of_length_le (List.getElem?_eq_none_iff.mp hk)] at hr
  exact hr H D w s P
 |some C=>
  have hp:=Ye hk
  have w1:W (C::OO.set k []) H:=w.of hp
  have hs:Xz (hid H OO) (hid H (OO.set k [])):=by
   rw[←X8 hp]
   exact QL (Xz.refl _) λb hb=>by rw[X4];simp[hb]
  exact hr H D w1.tail (S.mono _ _ hs s) (PZ.tr (fd.tr D) hs P)
theorem GN {te:TE}{r:Enc α}{m:Rs α}{f:Rs β}(he:EvB K Er S OO σ te r m)(hr:Sv Er S OO σ u Fd f):Sv Er S OO σ (Vi (DY te) u) Fd (m.bind λ_=>f):=λH D w s P=>
 he.st w s P λa v H' s1 w' s' ho P'=>hr H' D w' s' P'
noncomputable def FAO {α:Type}(K:PySem.W.Frag)(OO OO':List (List XH))(o:OE α)(Q:List V->Hp->Prop)(as:List α)(H:Hp):Prop:=∀ vs Cs H',Xz H H'->W (Cs.flatten::OO') H'->Xz (hid H OO) (hid H' (Cs.flatten::OO'))->P3 (o K (hid H' (Cs.flatten::OO'))) vs as Cs->Q vs H'
noncomputable def MH {α:Type}(K:PySem.W.Frag)(Er:Exc->Hp->Prop)(S:SC)(OO OO':List (List XH))(σ:St)(t:TA)(o:OE α)(m:Rs (List α)):Prop:=∀ H Q,W OO H->S.p (hid H OO)->PZ Er (FAO K OO OO' o Q) H m->t σ H Q
theorem Kc {o:OE α}:MH K Er S OO OO σ QV o (.ok []):=λH Q w s P=>P [] [] H (Xz.refl _) w.nil (by show Xz _ (hid H ([]::OO));rw[Zs];exact Xz.refl _) .nil
theorem Uj {te:TE}{t:TA}{o:OE α}[z:MonoO o]{m:Rs α}{n:Rs (List α)}(he:Ev K Er S OO OO1 σ te o m)(ht:∀C,MH K Er S (C::OO1) (C::OO2) σ t o n):MH K Er S OO OO2 σ (X2 te t) o (m.bind λa=>n.bind λas=>.ok (a::as)):=λH Q w s P=>by
 refine he H _ w s ?_
 cases em:m with
 |bad=>rw[em] at P;exact P
 |err x=>rw[em] at P;exact P
 |ok a=>
  rw[em] at P
  intro v C H1 s1 w1 m1 ho
  refine ht C H1 _ w1 (S.mono _ _ m1 s) ?_
  have P1:PZ Er (FAO K OO OO2 o Q) H (n.bind λas=>.ok (a::as)):=P
  cases en:n with
  |bad=>rw[en] at P1;exact P1
  |err x=>rw[en] at P1;exact λH2 s2=>P1 H2 (s1.trans s2)
  |ok as=>
   rw[en] at P1
   have P1:FAO K OO OO2 o Q (a::as) H:=P1
   intro vs Cs H2 s2 w2 m2 pr
   have pe:((C::Cs).flatten::OO2).flatten.Perm (Cs.flatten::C::OO2).flatten:=by
    simp only[List.flatten_cons]
    rw[←List.append_assoc]
    exact List.perm_append_comm.append_right _
   refine P1 (v::vs) (C::Cs) H2 (s1.trans s2) (w2.of pe) ?_ ?_
   ·rw[X8 pe];exact m1.trans m2
   ·rw[X8 pe];exact .cons (z.mono m2 ho) pr
theorem Ez {t:TA}{o:OE α}[z:MonoO o]{m:Rs (List α)}(h:MH K Er S OO OO σ t o m):Ev K Er S OO OO σ (Nt t) (oL o) (m.bind λas=>chk (as.length<=sizeLine) (.ok as)):=λH Q w s P=>by
 refine h H _ w s ?_
 cases e:m with
 |bad=>rw[e] at P;exact P
 |err x=>rw[e] at P;exact P
 |ok as=>
  rw[e] at P
  obtain⟨hsz,P⟩:=PZ.chk (show PZ Er _ H (chk (as.length<=sizeLine) (.ok as)) from P)
  intro vs Cs H1 s1 w1 m1 p
  exact⟨by rw[p.len.1];exact hsz,LI w1 m1 s1 p P⟩
class InE {α:Type}[DecidableEq α](r:Enc α):Prop where
 fl:∀{K:PySem.W.Frag}{H:Hp}{x:V}{a:α},r K H x a->Vr x=true
 eq:∀{K:PySem.W.Frag}{H H':Hp}{x y:V}{a b:α},r K H x a->r K H' y b->eqV x y=decide (a=b)
instance:InE Xa:=⟨fun {K H x a} h=>by cases(show x= .int a from h);rfl,fun {K H H' x y a b} h h'=>by
 cases(show x= .int a from h);cases(show y= .int b from h');show(a==b)=_;rw[HB]⟩
theorem VP [DecidableEq α]{r:Enc α}[z:InE r]{H H':Hp}{x:V}{a:α}(hx:r K H x a):∀{xs:List V}{as:List α},Paired (r K H') xs as->xs.all Vr=true/\inV x xs=decide (a∈as)
 |_,_, .nil=>⟨rfl,by simp[inV]⟩
 |_,_, .cons h t=>by
  obtain⟨h1,h2⟩:=VP hx t
  refine⟨by rw[List.all_cons,h1,z.fl h];rfl,?_⟩
  unfold inV at h2⊢
  rw[List.any_cons,h2,z.eq h hx,Bool.eq_iff_iff,Bool.or_eq_true,decide_eq_true_eq,decide_eq_true_eq,decide_eq_true_eq,List.mem_cons]
  exact or_congr ⟨Eq.symm,Eq.symm⟩ Iff.rfl
theorem Ih [DecidableEq α]{ta tb:TE}{r:Enc α}[z:InE r]{ma:Rs α}{mb:Rs (List α)}(ha:EvB K Er S OO σ ta r ma)(hb:EvB K Er S OO σ tb (rV r) mb):EvB K Er S OO σ (tOp (rIn K false) ta tb) X0 (ma.bind λa=>mb.bind λas=>.ok (decide (a∈as))):=λH Q w s P=>
 ha.run w s FB.tr P λa x H1 s1 w1 q1 r1 P1=>hb.run w1 q1 FB.tr P1 λb y H2 s2 w2 q2 ⟨p,xs,e,q,pr⟩ P2=>by
  obtain⟨h1,h2⟩:=VP r1 pr
  exact⟨p,xs,e, .inl (SqL.of q),z.fl r1,h1,P2 _ H2 (Xz.refl _) (by rw[h2];rfl)⟩
noncomputable def Hr [DecidableEq α](as:List α)(a:α):Rs Int:=match as.findIdx? (λb=>decide (b=a)) with
 |some j=>.ok (j:Int)
 |none=>.bad
theorem DW [DecidableEq α]{r:Enc α}[z:InE r]{H H':Hp}{x:V}{a:α}(hx:r K H x a){xs:List V}{as:List α}(p:Paired (r K H') xs as){j:Nat}(hj:as.findIdx? (λb=>decide (b=a))=some j):
  (∃y,xs[j]?=some y/\eqV y x=true)/\∀(m:Nat) y,m<j->xs[m]?=some y->eqV y x=false:=by
 rw[List.findIdx?_eq_some_iff_getElem] at hj
 obtain⟨h1,h2,h3⟩:=hj
 constructor
 ·obtain⟨y,hy,ry⟩:=Paired.getR p (i:=j) (b:=as[j]) (by simp[h1])
  exact⟨y,hy,by rw[z.eq ry hx];exact h2⟩
 ·intro m y hm hy
  obtain⟨b,hb,rb⟩:=Paired.getL p hy
  have hml:m<as.length:=by omega
  have e:b=as[m]:=by rw[List.getElem?_eq_getElem hml] at hb;exact(Option.some.inj hb).symm
  rw[z.eq rb hx,e]
  have:=h3 m hm
  simpa using this
theorem Lc [DecidableEq α]{as:List α}{a:α}{x:Exc}:Hr as a≠ .err x:=by unfold Hr;split<;> exact λz=>nomatch z
theorem Me [DecidableEq α]{as:List α}{a:α}{n:Int}(h:Hr as a= .ok n):∃j:Nat,as.findIdx? (λb=>decide (b=a))=some j/\n=j:=by
 unfold Hr at h;split at h
 ·cases h;exact⟨_,by assumption,rfl⟩
 ·cases h
theorem Gr [DecidableEq α]{ta tb:TE}{r:Enc α}[z:InE r][y:MonoE r]{ma:Rs (List α)}{mb:Rs α}(ha:EvB K Er S OO σ ta (rV r) ma)(hb:EvB K Er S OO σ tb r mb):EvB K Er S OO σ (tBM K "list" (Ek K) ta (X2 tb QV)) Xa (ma.bind λas=>mb.bind λa=>Hr as a):=λH Q w s P=>
 ha.run w s FB.tr P λas x H1 s1 w1 q1 ⟨p,xs,e,q,pr⟩ P1=>⟨by rw[e];exact .inl ⟨rfl,_,SqL.of q⟩,hb.run w1 q1 FB.tr P1 λb v H2 s2 w2 q2 r2 P2=>by
  obtain⟨c,hc,P3⟩:=P2.okOf λx=>Lc
  obtain⟨j,hj,rfl⟩:=Me hc
  have pr2:=Paired.imp2 (G:=r K H2) (λ_ _ h=>y.mono s2 h) pr
  obtain⟨h1,h2⟩:=DW r2 pr2 hj
  exact⟨p,xs,v,j,e,rfl,SqL.of (s2 _ _ q),z.fl r2,(VP r2 pr2).1,h1,h2,P3 _ H2 (Xz.refl _) rfl⟩⟩
theorem B7 {α:Type}[DecidableEq α]{r r':Enc α}{d:Nat}(E:EqOk r d)(h:∀{K:PySem.W.Frag}{H:Hp}{v:V}{a:α},r' K H v a->r K H v a)(m:MonoE r'):EqOk r' d where
 uniq:=λI h1 h2=>E.uniq I (h h1) (h h2)
 eq:=λI rx ry h1 h2 hu=>E.eq I rx ry (h h1) (h h2) hu
 rc:=λI rx ry h1 h2 hu=>E.rc I rx ry (h h1) (h h2) hu
 ne:=λI rx ry h1 h2 hu=>E.ne I rx ry (h h1) (h h2) hu
 keep:=λs q=>m.mono s q
theorem On {α:Type}[DecidableEq α]{r:Enc α}{d:Nat}[m:MonoE r](E:EqOk r d):EqOk (rV r) (d+1):=B7 (Lx E) (λr9=>by obtain⟨a,xs,e,q,p⟩:=r9;exact⟨a,xs,e,SqL.of q,p⟩) inferInstance
theorem Nu {α β:Type}[DecidableEq α][DecidableEq β]{r:Enc α}{q:Enc β}{d:Nat}[m:MonoE r][n:MonoE q](E:EqOk r d)(F:EqOk q d):EqOk (rP2 r q) (d+1):=B7 (LR E F) (λr9=>by obtain⟨a,x,y,e,q,p⟩:=r9;exact⟨a,x,y,e,SqT.of q,p⟩) inferInstance
end
section
variable {K:PySem.W.Frag}{Er:Exc->Hp->Prop}{S:SC}{OO OO' OO1 OO2:List (List XH)}{σ:St}{α β γ ρ ι δ ε:Type}
variable {Fd:Ends->β->Hp->Prop}[fd:FdOk Fd]{u:TS}
theorem JE {ta tb:TE}{o:OE α}{q:OE β}[z:MonoO o][y:MonoO q]{ma:Rs α}{mb:Rs β}(ha:Ev K Er S OO OO1 σ ta o ma)(hb:∀C,Ev K Er S (C::OO1) (C::OO2) σ tb q mb):Ev K Er S OO OO2 σ (Ms (X2 ta (X2 tb QV))) (oT2 o q) (ma.bind λa=>mb.bind λb=>.ok (a,b)):=λH Q w s P=>by
 refine ha H _ w s ?_
 cases em:ma with
 |bad=>rw[em] at P;exact P
 |err x=>rw[em] at P;exact P
 |ok a=>
  rw[em] at P
  intro v C H1 s1 w1 m1 ho
  refine hb C H1 _ w1 (S.mono _ _ m1 s) ?_
  have P1:PZ Er (FO K OO OO2 (oT2 o q) Q) H (mb.bind λb=>.ok (a,b)):=P
  cases en:mb with
  |bad=>rw[en] at P1;exact P1
  |err x=>rw[en] at P1;exact λH2 s2=>P1 H2 (s1.trans s2)
  |ok b=>
   rw[en] at P1
   have P1:FO K OO OO2 (oT2 o q) Q (a,b) H:=P1
   intro v2 C2 H2 s2 w2 m2 ho2
   refine⟨by show 2<=sizeLine;decide,λp hp=>?_⟩
   have pe:((C++C2)::OO2).flatten.Perm (C2::C::OO2).flatten:=by
    simp only[List.flatten_cons]
    rw[←List.append_assoc]
    exact List.perm_append_comm.append_right _
   have s3:Xz H2 (upd H2 p (.tup [v,v2])):=XL hp _
   have w3:=(w2.keep s3).of pe
   have m3:Xz (hid H2 (C2::C::OO2)) (hid (upd H2 p (.tup [v,v2])) ((C++C2)::OO2)):=by rw[X8 pe];exact Xk s3
   refine P1 (.ref p) (C++C2) _ (s1.trans (s2.trans s3)) w3 (m1.trans (m2.trans m3)) ⟨p,v,v2,C,C2,rfl,?_,z.mono (m2.trans m3) ho,y.mono m3 ho2,rfl⟩
   rw[X8 pe]
   exact ZZ w2 hp
theorem FH {c:TT}{t1:TS}{mc:Rs Bool}{m2:Rs β}(hc:EvT Er S OO σ c mc)(h2:Sv Er S OO σ u Fd m2):Sv Er S OO σ (Vi (NK c t1 ED) u) Fd (mc.bind λb=>if b=true then .bad else m2):=λH D w s P=>
 hc.st w s P λb H' w' s' P'=>by
  cases b with
  |true=>rw[if_pos rfl] at P';exact P'.elim
  |false=>exact h2 H' D w' s' P'
theorem KL:∀{l:List XH}{a b:XH},(l.map (·.1)).Nodup->a∈l->b∈l->a.1=b.1->a=b
 | [],_,_,_,h,_,_=>by cases h
 |c::l,a,b,n,ha,hb,e=>by
  rw[List.map_cons,List.nodup_cons] at n
  cases ha with
  |head=>cases hb with
   |head=>rfl
   |tail _ hb=>exact absurd (List.mem_map.mpr ⟨b,hb,e.symm⟩) n.1
  |tail _ ha=>cases hb with
   |head=>exact absurd (List.mem_map.mpr ⟨a,ha,e⟩) n.1
   |tail _ hb=>exact KL n.2 ha hb e
theorem Fx {Cs:List (List XH)}{k:Nat}{C:List XH}(h:Cs[k]?=some C):∀c∈C,c∈Cs.flatten:=λc hc=>List.mem_flatten.mpr ⟨C,List.mem_of_getElem? h,hc⟩
theorem IH {as:List α}{i:Int}{a:α}(h:atR as i= .ok a):∃k,ixN as.length i=some k/\as[k]?=some a:=by
 have:=F9 h
 unfold atI at this
 cases e:ixN as.length i with
 |none=>rw[e] at this;cases this
 |some k=>rw[e] at this;exact⟨k,rfl,this⟩
theorem IL {r:Enc α}[z:MonoE r]{v:V}{as:List (List α)}{row row':List α}{H:Hp}{p q:Addr}{xs ys ys':List V}{Cs:List (List XH)}{k kk:Nat}(w:W OO H)(hk:OO[k]?=some ((p, .lst xs)::Cs.flatten))(hP:P3 (oL (oF r) K (hid H OO)) xs as Cs)(hrow:as[kk]?=some row)
  (hx:xs[kk]?=some (.ref q))(hq:H q=some (.lst ys))(hcs:Cs[kk]?=some [(q, .lst ys)])(pr:Paired (r K (hid H OO)) ys' row'):
  ∃C',W (OO.set k C') (upd H q (.lst ys'))/\Xz (hid H OO) (hid (upd H q (.lst ys')) (OO.set k C'))/\oL (oL (oF r)) K (hid (upd H q (.lst ys')) (OO.set k C')) (.ref p) (as.set kk row') C':=by
 have hkl:kk<Cs.length:=by
  rcases Nat.lt_or_ge kk Cs.length with h |h
  ·exact h
  ·rw[List.getElem?_eq_none h] at hcs;cases hcs
 have hin:∀c∈(p,HO.lst xs)::Cs.flatten,c∈OO.flatten:=λc hc=>List.mem_flatten.mpr ⟨_,List.mem_of_getElem? hk,hc⟩
 have w0:W ([]::OO) H:=w.nil
 have cn0:=Qx w0 hk
 rw[List.append_nil] at cn0
 have e0:Cs[kk]=[(q, .lst ys)]:=by
  rw[List.getElem?_eq_getElem hkl] at hcs;exact Option.some.inj hcs
 have hp:=Ki (Cs:=Cs) (j:=kk) (D:=[(q,HO.lst ys')]) hkl
 rw[e0] at hp
 have hpm:((Cs.set kk [(q,HO.lst ys')]).flatten.map (·.1)).Perm (Cs.flatten.map (·.1)):=by
  have:=hp.map (·.1)
  simp only[List.map_append,List.map_cons,List.map_nil] at this
  exact(List.perm_append_right_iff _).mp this
 have hpne:p∉Cs.flatten.map (·.1):=by
  have h1:=Ye hk
  have:=(w.of (OO':=((p,HO.lst xs)::Cs.flatten)::OO.set k []) h1).nd
  rw[X4,List.map_cons,List.cons_append,List.nodup_cons] at this
  exact λz=>this.1 (List.mem_append_left _ z)
 have hqC:q∈Cs.flatten.map (·.1):=List.mem_map.mpr ⟨(q, .lst ys),Fx hcs _ (by simp),rfl⟩
 have hpq:p≠q:=λe=>hpne (e▸hqC)
 have hcells:∀c∈(p,HO.lst xs)::(Cs.set kk [(q,HO.lst ys')]).flatten,upd H q (.lst ys') c.1=some c.2/\Mp c.2=true:=λc hc=>by
  rcases List.mem_cons.mp hc with rfl |hc
  ·rw[XA hpq];exact⟨w.tr _ (hin _ List.mem_cons_self),rfl⟩
  ·obtain⟨D,hD,hcD⟩:=List.mem_flatten.mp hc
   rcases List.mem_or_eq_of_mem_set hD with hD |hD
   ·by_cases hcq:c.1=q
    ·-- a cell at q in another place:then it is this one
     have hc2:c∈(Cs.set kk [(q,HO.lst ys')]).flatten:=hc
     have n1:((Cs.set kk [(q,HO.lst ys')]).flatten.map (·.1)).Nodup:=hpm.nodup_iff.mpr cn0
     have hm:(q,HO.lst ys')∈(Cs.set kk [(q,HO.lst ys')]).flatten:=List.mem_flatten.mpr ⟨[(q, .lst ys')],List.mem_set (by simpa using hkl) _,by simp⟩
     have e1:c=(q,HO.lst ys'):=by
      have:=KL n1 hc2 hm hcq
      exact this
     rw[e1];exact⟨YB,rfl⟩
    ·rw[XA hcq]
     have:c∈OO.flatten:=hin c (List.mem_cons_of_mem _ (List.mem_flatten.mpr ⟨D,hD,hcD⟩))
     exact⟨w.tr c this,w.mu c this⟩
   ·rw[hD] at hcD
    have e1:c=(q,HO.lst ys'):=by simpa using hcD
    rw[e1];exact⟨YB,rfl⟩
 have hq':q∈(Cs.set kk [(q,HO.lst ys')]).flatten.map (·.1):=hpm.mem_iff.mpr hqC
 obtain⟨w2,m2⟩:=LN (C':=(p, .lst xs)::(Cs.set kk [(q,HO.lst ys')]).flatten) (p:=q) (o:=.lst ys') w0 hk (List.mem_cons_of_mem _ hqC) (List.mem_cons_of_mem _ hq') (by
   rw[List.map_cons,List.nodup_cons]
   exact⟨λz=>hpne (hpm.mem_iff.mp z),hpm.nodup_iff.mpr cn0⟩) (λb hb=>by
   rw[List.append_nil]
   rcases List.mem_cons.mp hb with rfl |hb
   ·exact List.mem_cons_self
   ·exact List.mem_cons_of_mem _ (hpm.mem_iff.mp hb)) (λc hc=>(hcells c hc).1) λc hc=>(hcells c hc).2
 rw[Zs] at m2
 have e3:xs.set kk (.ref q)=xs:=by
  apply List.ext_getElem?
  intro n
  by_cases hn:n=kk
  ·subst hn
   rw[hx,List.getElem?_set_self (by
    rcases Nat.lt_or_ge n xs.length with h |h
    ·exact h
    ·rw[List.getElem?_eq_none h] at hx;cases hx)]
  ·rw[List.getElem?_set_ne (λe=>hn e.symm)]
 refine⟨_,w2,m2,⟨p,xs,Cs.set kk [(q,HO.lst ys')],rfl,?_,rfl⟩⟩
 have:=P3.set (F:=oL (oF r) K (hid (upd H q (.lst ys')) (OO.set k ((p, .lst xs)::(Cs.set kk [(q,HO.lst ys')]).flatten)))) (a:=V.ref q) (b:=row') (c:=[(q,HO.lst ys')])
  ⟨q,ys',List.replicate row'.length [],rfl,(P3.of (Paired.imp2 (λ_ _ h=>z.mono m2 h) pr)).imp λ_ _ _ h=>h,by rw[Y5]⟩ kk (P3.imp (λ_ _ _ h=>MonoO.mono m2 h) hP)
 rw[e3] at this
 exact this
theorem LJ {r:Enc α}{h:Hp}{as:List (List α)}{xs:List V}{Cs:List (List XH)}{kk:Nat}{row:List α}(q:P3 (oL (oF r) K h) xs as Cs)(hrow:as[kk]?=some row):∃q0 ys,xs[kk]?=some (.ref q0)/\Cs[kk]?=some [(q0, .lst ys)]/\Paired (r K h) ys row:=by
 obtain⟨x,c,h1,h2,p,ys,Ds,e,h3,h4⟩:=q.get hrow
 obtain⟨h5,h6⟩:=P3.flat h3
 rw[h6] at h4
 exact⟨p,ys,by rw[h1,e],by rw[h2,h4],h5⟩
theorem HZ {ta ti:TE}{r:Enc α}[z:MonoE r]{m:Rs α}{mi:Rs Int}{f:List (List α)->Rs β}{v:V}{as:List (List α)}{C:List XH}(i k:Nat)(hσ:σ[i]?=some (some v))(hk:OO[k]?=some C)(h:∀x,S.p x->oL (oL (oF r)) K x v as C)(he:EvS K Er S OO σ ta r m)
  (hi:EvB K Er S OO σ ti Xa mi)
  (hr:∀bs C',Sv Er (S.addO K (oL (oL (oF r))) v bs C') (OO.set k C') σ u Fd (f bs)):
  Sv Er S OO σ (Vi (DY (tBM K "list" Kx (tOp (Ib K) (GF i) ti) (X2 ta QV))) u) Fd (mi.bind λx=>(atR as x).bind λrow=>m.bind λa=>chk (row.length<sizeLine) ((QO as x (row++[a])).bind f)):=λH D w s P=>
 ⟨v,hσ,hi.st w s P λx vx H2 s2 w2 q2 r2 P2=>by
  cases ea:atR as x with
  |bad=>rw[ea] at P2;exact P2.elim
  |err ex=>exact absurd ea K3
  |ok row=>
   rw[ea] at P2
   obtain⟨kk,hkk,hrow⟩:=IH ea
   obtain⟨p,xs,Cs,e,q,c⟩:=h _ q2
   subst c e
   obtain⟨q0,ys,g1,g2,g3⟩:=LJ q hrow
   have hin:∀c∈(p,HO.lst xs)::Cs.flatten,c∈OO.flatten:=λc hc=>List.mem_flatten.mpr ⟨_,List.mem_of_getElem? hk,hc⟩
   have hH:H2 p=some (.lst xs):=w2.tr (p, .lst xs) (hin _ List.mem_cons_self)
   have hq0:H2 q0=some (.lst ys):=w2.tr (q0, .lst ys) (hin _ (List.mem_cons_of_mem _ (Fx g2 _ (by simp))))
   refine⟨p,xs,x, .ref q0,rfl,r2,SqL.of hH,by unfold atI;rw[q.len.1,hkk];exact g1, .inl ⟨rfl,_,SqL.of hq0⟩,he.st w2 q2 (f:=λa=>chk (row.length<sizeLine) ((QO as x (row++[a])).bind f)) P2 λa va H3 s3 w3 q3 r3 P3'=>?_⟩
   obtain⟨hsz,P3'⟩:=PZ.chk P3'
   have P4:PZ Er (Fd D) (hid H3 OO) (f (as.set kk (row++[a]))):=by
    have e5:QO as x (row++[a])= .ok (as.set kk (row++[a])):=by unfold QO;rw[hkk]
    rw[e5] at P3'
    exact P3'
   have m3:=Xk (OO:=OO) s3
   obtain⟨C',w4,m4,o4⟩:=IL (ys':=ys++[va]) (row':=row++[a]) (v:=.ref p) w3 hk (P3.imp (λ_ _ _ h=>MonoO.mono m3 h) q) hrow g1 (s3 _ _ hq0) g2 (Paired.app (Paired.imp2 (λ_ _ h=>z.mono m3 h) g3) (.cons r3 .nil))
   exact⟨q0,ys,va,rfl,rfl,s3 _ _ hq0,by rw[Paired.len g3];exact hsz,hr _ C' _ D w4 ⟨S.mono _ _ m4 q3,o4⟩ (PZ.tr (fd.tr D) m4 P4)⟩⟩
theorem Oc {H H':Hp}{C D:List XH}{k:Nat}(w:W OO H)(hk:OO[k]?=some C)(s:Xz H H')(w':W (D::OO.set k []) H')(m:Xz (hid H (OO.set k [])) (hid H' (D::OO.set k []))):
  W (D::OO) H'/\Xz (hid H OO) (hid H' (D::OO))/\Vv (hid H' (D::OO.set k [])) (hid H' (D::OO)):=by
 have hp:=Ye hk
 have wk:W (C::OO.set k []) H:=w.of hp
 have hC:∀c∈C,hid H (OO.set k []) c.1=some c.2:=λc hc=>Zz (wk.cell c hc) (by
  have:=wk.nd
  rw[X4] at this
  exact λhb=>(List.nodup_append.mp this).2.2 c.1 (List.mem_map.mpr ⟨c,hc,rfl⟩) c.1 hb rfl)
 have hC':∀c∈C,H' c.1=some c.2/\c.1∉fl (D::OO.set k []):=λc hc=>X5 (m _ _ (hC c hc))
 have w2:W (C::D::OO.set k []) H':=by
  refine⟨λc hc=>?_,?_,λc hc=>?_⟩
  ·rw[List.flatten_cons,List.mem_append] at hc
   exact hc.elim (λhc=>(hC' c hc).1) λhc=>w'.tr c hc
  ·rw[X4]
   refine List.nodup_append.mpr ⟨?_,w'.nd,λa ha b hb e=>?_⟩
   ·have:=wk.nd
    rw[X4] at this
    exact(List.nodup_append.mp this).1
   ·obtain⟨c,hc,rfl⟩:=List.mem_map.mp ha
    subst e
    exact(hC' c hc).2 hb
  ·rw[List.flatten_cons,List.mem_append] at hc
   exact hc.elim (λhc=>wk.mu c (by simp[hc])) λhc=>w'.mu c hc
 have pe:(D::OO).flatten.Perm (C::D::OO.set k []).flatten:=by
  simp only[List.flatten_cons]
  refine List.Perm.trans (List.Perm.append_left D (by simpa using hp.symm:OO.flatten.Perm (C++(OO.set k []).flatten))) ?_
  rw[←List.append_assoc, ←List.append_assoc]
  exact List.perm_append_comm.append_right _
 have w3:=w2.of pe
 refine⟨w3,λb u q=>?_,λb u q i=>w3.i b u (X5 q).1 i⟩
 obtain⟨q1,q2⟩:=X5 q
 have q3:hid H (OO.set k []) b=some u:=Zz q1 λz=>q2 ((Jf hp b).mp (by rw[X4];simp[z]))
 obtain⟨q4,q5⟩:=X5 (m _ _ q3)
 refine Zz q4 λz=>?_
 have z2:=(Jf pe b).mp z
 rw[X4,List.mem_append] at z2
 rcases z2 with z2 |z2
 ·exact q2 ((Jf hp b).mp (by rw[X4];exact List.mem_append_left _ z2))
 ·exact q5 z2
theorem Oo {r1:Enc γ}{o1:OE γ}[z:FrzC o1 r1][MonoE r1]{H:Hp}{v:V}{a:γ}{C:List XH}{k:Nat}(w:W OO H)(hk:OO[k]?=some C)(s:S.p (hid H OO))(h:∀x,S.p x->o1 K x v a C):
  W (OO.set k []) H/\(S.add K r1 v a).p (hid H (OO.set k [])):=by
 have hp:=Ye hk
 have wk:W (C::OO.set k []) H:=w.of hp
 have hs:Xz (hid H OO) (hid H (OO.set k [])):=by
  rw[←X8 hp]
  exact QL (Xz.refl _) λb hb=>by rw[X4];simp[hb]
 refine⟨wk.tail,S.mono _ _ hs s,z.frz (h _ s) hs λc hc=>Zz (wk.cell c hc) ?_⟩
 have:=wk.nd
 rw[X4] at this
 exact λhb=>(List.nodup_append.mp this).2.2 c.1 (List.mem_map.mpr ⟨c,hc,rfl⟩) c.1 hb rfl
theorem V0 {te:TE}{o:OE α}[y:FlatO o]{r1:Enc γ}{o1:OE γ}[FrzC o1 r1][MonoE r1]{m:Rs α}{v:V}{a:γ}{C:List XH}(k:Nat)(hk:OO[k]?=some C)(h:∀x,S.p x->o1 K x v a C)(he:Ev K Er (S.add K r1 v a) (OO.set k []) (OO.set k []) σ te o m):Ev K Er S OO OO σ te o m:=λH Q w s P=>by
 obtain⟨w1,s1⟩:=Oo (r1:=r1) w hk s h
 refine he H Q w1 s1 (P.imp λb _ hb v' D H' s' w' m' ho=>?_)
 obtain⟨w3,m3,i3⟩:=Oc w hk s' w' m'
 exact hb v' D H' s' w3 m3 (y.flat i3 ho)
theorem Hg (K:PySem.W.Frag)(T:String):PySem.W.kitOne K (.type T) (.type T)=some true:=by
 unfold PySem.W.kitOne
 rw[if_pos (beq_self_eq_true _)]
theorem K2 (K:PySem.W.Frag):PySem.W.kitOne K (.type "int") (.type "bool")=some false:=by
 first
  |rfl
  |decide+kernel
  | (unfold PySem.W.kitOne PySem.W.kitCls;rfl)
end
section
variable {K:PySem.W.Frag}{Er:Exc->Hp->Prop}{S:SC}{OO OO' OO1 OO2:List (List XH)}{σ:St}{α β γ ρ ι δ ε:Type}
variable {Fd:Ends->β->Hp->Prop}[fd:FdOk Fd]{u:TS}
noncomputable def OZ:Option α->Rs α
 |some a=>.ok a
 |none=>.bad
end
section
variable {K:PySem.W.Frag}{Er:Exc->Hp->Prop}{S:SC}{OO OO' OO1 OO2:List (List XH)}{σ:St}{α β γ ρ ι δ ε:Type}
variable {α1 α2 α3 α4 α5:Type}
noncomputable def rP4 (r1:Enc α1)(r2:Enc α2)(r3:Enc α3)(r4:Enc α4):Enc (α1×α2×α3×α4):=λK H v p=>∃ a x1 x2 x3 x4,v= .ref a/\H a=some (.tup [x1,x2,x3,x4])/\r1 K H x1 p.1/\r2 K H x2 p.2.1/\r3 K H x3 p.2.2.1/\r4 K H x4 p.2.2.2
instance {r1:Enc α1}{r2:Enc α2}{r3:Enc α3}{r4:Enc α4}[m1:MonoE r1][m2:MonoE r2][m3:MonoE r3][m4:MonoE r4]:MonoE (rP4 r1 r2 r3 r4):=⟨λs r9=>by obtain⟨a,x1,x2,x3,x4,e,h,p1,p2,p3,p4⟩:=r9;exact⟨a,x1,x2,x3,x4,e,s _ _ h,m1.mono s p1,m2.mono s p2,m3.mono s p3,m4.mono s p4⟩⟩
instance {r1:Enc α1}{r2:Enc α2}{r3:Enc α3}{r4:Enc α4}[m1:FlatE r1][m2:FlatE r2][m3:FlatE r3][m4:FlatE r4]:FlatE (rP4 r1 r2 r3 r4):=⟨λs r9=>by obtain⟨a,x1,x2,x3,x4,e,h,p1,p2,p3,p4⟩:=r9;exact⟨a,x1,x2,x3,x4,e,s _ _ h rfl,m1.flat s p1,m2.flat s p2,m3.flat s p3,m4.flat s p4⟩⟩
instance {r1:Enc α1}{r2:Enc α2}{r3:Enc α3}{r4:Enc α4}:TyE (rP4 r1 r2 r3 r4) "tuple":=⟨λr9=>by obtain⟨p,x1,x2,x3,x4,e,q,_⟩:=r9;exact by subst e;exact .tup q⟩
noncomputable def rP5 (r1:Enc α1)(r2:Enc α2)(r3:Enc α3)(r4:Enc α4)(r5:Enc α5):Enc (α1×α2×α3×α4×α5):=λK H v p=>∃ a x1 x2 x3 x4 x5,v= .ref a/\H a=some (.tup [x1,x2,x3,x4,x5])/\r1 K H x1 p.1/\r2 K H x2 p.2.1/\r3 K H x3 p.2.2.1/\r4 K H x4 p.2.2.2.1/\r5 K H x5 p.2.2.2.2
instance {r1:Enc α1}{r2:Enc α2}{r3:Enc α3}{r4:Enc α4}{r5:Enc α5}[m1:MonoE r1][m2:MonoE r2][m3:MonoE r3][m4:MonoE r4][m5:MonoE r5]:MonoE (rP5 r1 r2 r3 r4 r5):=⟨λs r9=>by obtain⟨a,x1,x2,x3,x4,x5,e,h,p1,p2,p3,p4,p5⟩:=r9;exact⟨a,x1,x2,x3,x4,x5,e,s _ _ h,m1.mono s p1,m2.mono s p2,m3.mono s p3,m4.mono s p4,m5.mono s p5⟩⟩
instance {r1:Enc α1}{r2:Enc α2}{r3:Enc α3}{r4:Enc α4}{r5:Enc α5}[m1:FlatE r1][m2:FlatE r2][m3:FlatE r3][m4:FlatE r4][m5:FlatE r5]:FlatE (rP5 r1 r2 r3 r4 r5):=⟨λs r9=>by obtain⟨a,x1,x2,x3,x4,x5,e,h,p1,p2,p3,p4,p5⟩:=r9;exact⟨a,x1,x2,x3,x4,x5,e,s _ _ h rfl,m1.flat s p1,m2.flat s p2,m3.flat s p3,m4.flat s p4,m5.flat s p5⟩⟩
instance {r1:Enc α1}{r2:Enc α2}{r3:Enc α3}{r4:Enc α4}{r5:Enc α5}:TyE (rP5 r1 r2 r3 r4 r5) "tuple":=⟨λr9=>by obtain⟨p,x1,x2,x3,x4,x5,e,q,_⟩:=r9;exact by subst e;exact .tup q⟩
theorem Fz {t1:TE}{t2:TE}{t3:TE}{t4:TE}{t5:TE}{r1:Enc α1}{r2:Enc α2}{r3:Enc α3}{r4:Enc α4}{r5:Enc α5}[z1:MonoE r1][z2:MonoE r2][z3:MonoE r3][z4:MonoE r4][z5:MonoE r5]{m1:Rs α1}{m2:Rs α2}{m3:Rs α3}{m4:Rs α4}{m5:Rs α5}(h1:EvS K Er S OO σ t1 r1 m1)(h2:EvS K Er S OO σ t2 r2 m2)(h3:EvS K Er S OO σ t3 r3 m3)(h4:EvS K Er S OO σ t4 r4 m4)(h5:EvS K Er S OO σ t5 r5 m5):EvS K Er S OO σ (Ms (X2 t1 (X2 t2 (X2 t3 (X2 t4 (X2 t5 QV)))))) (rP5 r1 r2 r3 r4 r5) (m1.bind λa1=>m2.bind λa2=>m3.bind λa3=>m4.bind λa4=>m5.bind λa5=>.ok (a1,a2,a3,a4,a5)):=λH Q w s P=>
 h1.run w s FS.tr P λa1 y1 H1 s1 w1 u1 q1 P1=>h2.run w1 u1 FS.tr P1 λa2 y2 H2 s2 w2 u2 q2 P2=>h3.run w2 u2 FS.tr P2 λa3 y3 H3 s3 w3 u3 q3 P3=>h4.run w3 u3 FS.tr P3 λa4 y4 H4 s4 w4 u4 q4 P4=>h5.run w4 u4 FS.tr P4 λa5 y5 H5 s5 w5 u5 q5 P5=>⟨by show 5<=sizeLine;decide,λp hp=>P5 _ _ (XL hp _) ⟨p,y1,y2,y3,y4,y5,rfl,ZZ w5 hp,z1.mono ((Xk s2).trans ((Xk s3).trans ((Xk s4).trans ((Xk s5).trans (Xk (XL hp _)))))) q1,z2.mono ((Xk s3).trans ((Xk s4).trans ((Xk s5).trans (Xk (XL hp _))))) q2,z3.mono ((Xk s4).trans ((Xk s5).trans (Xk (XL hp _)))) q3,z4.mono ((Xk s5).trans (Xk (XL hp _))) q4,z5.mono (Xk (XL hp _)) q5⟩⟩
noncomputable def tg5 {r1:Enc α1}{r2:Enc α2}{r3:Enc α3}{r4:Enc α4}{r5:Enc α5}[MonoE r1][MonoE r2][MonoE r3][MonoE r4][MonoE r5](i1 i2 i3 i4 i5:Nat):Tgt K OO (Ie K 5 (Qz (ZB i1) (Qz (ZB i2) (Qz (ZB i3) (Qz (ZB i4) (Qz (ZB i5) IV)))))) (rP5 r1 r2 r3 r4 r5) (V×V×V×V×V) where
 set:=λv σ=>(((((σ.set i1 (some v.1)).set i2 (some v.2.1)).set i3 (some v.2.2.1)).set i4 (some v.2.2.2.1)).set i5 (some v.2.2.2.2))
 sc:=λa v S=>(((((S.add K r1 v.1 a.1).add K r2 v.2.1 a.2.1).add K r3 v.2.2.1 a.2.2.1).add K r4 v.2.2.2.1 a.2.2.2.1).add K r5 v.2.2.2.2 a.2.2.2.2)
 ok:=fun {H v a σ S Q} r9 hs hq=>by obtain⟨p,x1,x2,x3,x4,x5,e,h,h1,h2,h3,h4,h5⟩:=r9;exact⟨p,_,e,SqT.of (Xx _ _ h),rfl,x1,[x2,x3,x4,x5],rfl,x2,[x3,x4,x5],rfl,x3,[x4,x5],rfl,x4,[x5],rfl,x5,[],rfl,rfl,hq (x1,x2,x3,x4,x5) ⟨⟨⟨⟨⟨hs,h1⟩,h2⟩,h3⟩,h4⟩,h5⟩⟩
theorem I9 {K:PySem.W.Frag}{n i1 i2 i3:Nat}(h1:i1<n)(h2:i2<n)(h3:i3<n):JS n (Ie K 3 (Qz (ZB i1) (Qz (ZB i2) (Qz (ZB i3) IV)))):=λx σ H Q q=>by
 obtain⟨a,xs,e1,hq,hl,v1,r1,f1,v2,r2,f2,v3,r3,f3,e9,q⟩:=q
 exact⟨a,xs,e1,hq,hl,v1,r1,f1,v2,r2,f2,v3,r3,f3,e9,q,by simp,λk hk=>by rw[List.getElem?_set_ne (by omega),List.getElem?_set_ne (by omega),List.getElem?_set_ne (by omega)]⟩
theorem CY {ta:TE}{r1:Enc α1}{r2:Enc α2}{r3:Enc α3}{m:Rs (α1×α2×α3)}(ha:EvS K Er S OO σ ta (rP3 r1 r2 r3) m):EvS K Er S OO σ (tOp (Mo K) ta (tC (.int 0))) r1 (m.bind λp=>.ok p.1):=λH Q w s P=>
 ha.run w s FS.tr P λa x H1 s1 w1 q1 r9 P1=>by obtain⟨p,x1,x2,x3,e,q,h1,h2,h3⟩:=r9;exact⟨p,_,0,x1,e,rfl,SqT.of (Xx _ _ q),rfl,P1 _ H1 (Xz.refl _) h1⟩
noncomputable def Ov (as:List Int):Rs Int:=chk (0<as.length) (.ok (Gg as))
theorem Ho {ta:TE}{ma:Rs (List Int)}(ha:EvB K Er S OO σ ta (rPL Xa) ma):EvB K Er S OO σ (tCB (M4 K Gg) (X2 ta QV)) Xa (ma.bind Ov):=λH Q w s P=>
 ha.run w s FB.tr P λa x H1 s1 w1 q1 ⟨p,xs,e,q,pr⟩ P1=>by
  obtain⟨h1,P1⟩:=PZ.chk P1
  exact⟨p,a,by rw[e],by rw[←Jp pr];exact SqT.of q,h1,P1 _ H1 (Xz.refl _) rfl⟩
theorem Ll {ta:TE}{m:Rs (Int×Int×Int)}(ha:EvB K Er S OO σ ta (rP3 Xa Xa Xa) m):EvB K Er S OO σ ta (rPL Xa) (m.bind λp=>.ok [p.1,p.2.1,p.2.2]):=λH Q w s P=>
 ha.run w s FB.tr P λa x H1 s1 w1 q1 r9 P1=>by obtain⟨p,x1,x2,x3,e,q,h1,h2,h3⟩:=r9;exact P1 _ H1 (Xz.refl _) ⟨p,_,e,q, .cons h1 (.cons h2 (.cons h3 .nil))⟩
noncomputable def rDP {α:Type}(r:Enc α)(K:PySem.W.Frag)(H:Hp)(kv:Key×V)(kx:Int×α):Prop:=kv.1= .inl kx.1/\r K H kv.2 kx.2
noncomputable def rD {α:Type}(r:Enc α):Enc (List (Int×α)):=λK H v d=>∃ p kvs,v= .ref p/\H p=some (.dK kvs)/\Paired (rDP r K H) kvs d
noncomputable def oD {α:Type}(r:Enc α):OE (List (Int×α)):=λK h v d C=>∃ p kvs,v= .ref p/\Paired (rDP r K h) kvs d/\C=[(p, .dK kvs)]
instance {r:Enc α}[m:MonoE r]:MonoE (rD r):=⟨λs r9=>by obtain⟨p,kvs,e,q,pr⟩:=r9;exact⟨p,kvs,e,s _ _ q,Paired.imp2 (λ_ _ z=>⟨z.1,m.mono s z.2⟩) pr⟩⟩
instance {r:Enc α}[m:MonoE r]:MonoO (oD r):=⟨λs r9=>by obtain⟨p,kvs,e,pr,c⟩:=r9;exact⟨p,kvs,e,Paired.imp2 (λ_ _ z=>⟨z.1,m.mono s z.2⟩) pr,c⟩⟩
instance {r:Enc α}[m:FlatE r]:FlatO (oD r):=⟨λs r9=>by obtain⟨p,kvs,e,pr,c⟩:=r9;exact⟨p,kvs,e,Paired.imp2 (λ_ _ z=>⟨z.1,m.flat s z.2⟩) pr,c⟩⟩
instance {r:Enc α}[m:MonoE r]:FrzC (oD r) (rD r):=⟨λr9 s hc=>by obtain⟨p,kvs,e,pr,c⟩:=r9;exact⟨p,kvs,e,hc (p, .dK kvs) (by rw[c];simp),Paired.imp2 (λ_ _ z=>⟨z.1,m.mono s z.2⟩) pr⟩⟩
noncomputable def Zp (d:List (Int×α))(k:Int):Option α:=(d.find? λkv=>decide (kv.1=k)).map (·.2)
noncomputable def Uq (d:List (Int×α))(k:Int)(v:α):List (Int×α):=if(d.any λkv=>decide (kv.1=k))=true then d.map (λkv=>if kv.1=k then(kv.1,v) else kv) else d++[(k,v)]
noncomputable def UC (d:List (Int×α))(k:Int):Rs α:=OZ (Zp d k)
theorem Jb {r:Enc α}{H:Hp}{k:Int}:∀{kvs:List (Key×V)}{d:List (Int×α)},Paired (rDP r K H) kvs d->(∀a,Zp d k=some a->∃v,G0 kvs (.inl k)=some v/\r K H v a)/\(G0 kvs (.inl k)).isSome=(Zp d k).isSome
 |_,_, .nil=>⟨λa h=>(by cases h),rfl⟩
 |kv::kvs,kx::d, .cons h t=>by
  obtain⟨h1,h2⟩:=Jb (k:=k) t
  by_cases e:kx.1=k
  ·have e2:kv.1= .inl k:=by rw[h.1,e]
   rw[VE e2]
   have e3:Zp (kx::d) k=some kx.2:=by simp[Zp,List.find?_cons,e]
   rw[e3]
   exact⟨λa ha=>by cases ha;exact⟨_,rfl,h.2⟩,rfl⟩
  ·have e2:¬kv.1= .inl k:=by rw[h.1];exact λz=>e (Sum.inl.inj z)
   rw[VC e2]
   have e3:Zp (kx::d) k=Zp d k:=by simp[Zp,List.find?_cons,e]
   rw[e3]
   exact⟨h1,h2⟩
theorem UQ {r:Enc α}{H:Hp}{k:Int}:∀{kvs:List (Key×V)}{d:List (Int×α)},Paired (rDP r K H) kvs d->(kvs.any λkv=>decide (kv.1= .inl k))=d.any λkx=>decide (kx.1=k)
 |_,_, .nil=>rfl
 |kv::kvs,kx::d, .cons h t=>by
  rw[List.any_cons,List.any_cons,UQ t,h.1]
  congr 1
  rw[Bool.eq_iff_iff];simp
theorem Ue {r:Enc α}{H:Hp}{k:Int}{v:V}{a:α}(hv:r K H v a){kvs:List (Key×V)}{d:List (Int×α)}(h:Paired (rDP r K H) kvs d):Paired (rDP r K H) (VS kvs (.inl k) v) (Uq d k a):=by
 unfold VS Uq
 rw[UQ h]
 by_cases e:(d.any λkx=>decide (kx.1=k))=true
 ·rw[if_pos e,if_pos e]
  clear e
  induction h with
  |nil=>exact .nil
  | @cons kv kx l m h t ih=>
   refine .cons ?_ ih
   show rDP r K H (if kv.1= .inl k then(kv.1,v) else kv) (if kx.1=k then(kx.1,a) else kx)
   by_cases e:kx.1=k
   ·rw[if_pos (show kv.1= .inl k by rw[h.1,e]),if_pos e];exact⟨h.1,hv⟩
   ·rw[if_neg (show ¬kv.1= .inl k by rw[h.1];exact λz=>e (Sum.inl.inj z)),if_neg e];exact h
 ·rw[if_neg e,if_neg e]
  exact Paired.app h (.cons ⟨rfl,hv⟩ .nil)
theorem Ml {r:Enc α}:Ev K Er S OO OO σ Ip (oD r) (.ok []):=λH Q w s P=>λp hp=>P (.ref p) [(p, .dK [])] _ (XL hp _) (w.new hp rfl) (Jj hp) ⟨p,[],rfl, .nil,rfl⟩
theorem U9 {td ty:TE}{r:Enc α}[z:MonoE r]{md:Rs (List (Int×α))}{mk:Rs Int}(hd:EvB K Er S OO σ td (rD r) md)(hk:EvB K Er S OO σ ty Xa mk):EvB K Er S OO σ (NM td ty) r (md.bind λd=>mk.bind λk=>UC d k):=λH Q w s P=>
 hd.run w s FB.tr P λd x H1 s1 w1 q1 ⟨p,kvs,e,q,pr⟩ P1=>hk.run w1 q1 FB.tr P1 λk y H2 s2 w2 q2 r2 P2=>by
  cases eg:Zp d k with
  |none=>rw[UC,eg] at P2;exact P2.elim
  |some a=>
   rw[UC,eg] at P2
   obtain⟨v,hv,rv⟩:=(Jb (k:=k) pr).1 a eg
   exact⟨p,v,e, .inl ⟨kvs, .inl k, .inl (s2 _ _ q),r2,hv.symm⟩,P2 _ H2 (Xz.refl _) (z.mono s2 rv)⟩
theorem Ht {td ty:TE}{r:Enc α}{md:Rs (List (Int×α))}{mk:Rs Int}(hk:EvB K Er S OO σ ty Xa mk)(hd:EvB K Er S OO σ td (rD r) md):EvB K Er S OO σ (Ee ty td) X0 (mk.bind λk=>md.bind λd=>.ok (!(Zp d k).isSome)):=λH Q w s P=>
 hk.run w s FB.tr P λk y H1 s1 w1 q1 r1 P1=>hd.run w1 q1 FB.tr P1 λd x H2 s2 w2 q2 r9 P2=>by obtain⟨p,kvs,e,q,pr⟩:=r9;exact⟨p,G0 kvs (.inl k),e, .inl ⟨kvs, .inl k, .inl q,r1,rfl⟩,P2 _ H2 (Xz.refl _) (by rw[(Jb (k:=k) pr).2];rfl)⟩
variable {Fd:Ends->β->Hp->Prop}[fd:FdOk Fd]{u:TS}
theorem L5 {tv ty:TE}{r:Enc α}[z:MonoE r]{mv:Rs α}{mk:Rs Int}{f:List (Int×α)->Rs β}{v:V}{d:List (Int×α)}{C:List XH}(i k:Nat)(hσ:σ[i]?=some (some v))(hk:OO[k]?=some C)(h:∀x,S.p x->oD r K x v d C)(hv:EvS K Er S OO σ tv r mv)(hy:EvB K Er S OO σ ty Xa mk)
  (hr:∀d' C',Sv Er (S.addO K (oD r) v d' C') (OO.set k C') σ u Fd (f d')):Sv Er S OO σ (Vi (MS (GF i) ty tv) u) Fd (mv.bind λa=>mk.bind λn=>chk (d.length<sizeLine) (f (Uq d n a))):=λH D w s P=>
 hv.st w s P λa va H1 s1 w1 q1 r1 P1=>⟨v,hσ,hy.st w1 q1 P1 λn vn H2 s2 w2 q2 r2 P2=>by
  obtain⟨hsz,P2⟩:=PZ.chk P2
  obtain⟨p,kvs,e,pr,c⟩:=h _ q2
  subst c e
  have hH:H2 p=some (.dK kvs):=w2.tr (p, .dK kvs) (List.mem_flatten.mpr ⟨_,List.mem_of_getElem? hk,by simp⟩)
  obtain⟨w3,m3⟩:=LN (D:=[]) (C':=[(p, .dK (VS kvs (.inl n) va))]) (p:=p) (o:=.dK (VS kvs (.inl n) va)) w2.nil hk (by simp) (by simp) (by simp) (λb hb=>by simpa using hb) (λc hc=>by
   have:c=(p, .dK (VS kvs (.inl n) va)):=by simpa using hc
   rw[this];exact YB) (λc hc=>by
   have:c=(p, .dK (VS kvs (.inl n) va)):=by simpa using hc
   rw[this];rfl)
  rw[Zs] at m3
  refine⟨p,_,rfl, .inl ⟨kvs, .inl n,hH,r2,by rw[Paired.len pr];exact hsz,rfl⟩,?_⟩
  exact hr _ _ _ D w3 ⟨S.mono _ _ m3 q2,⟨p,_,rfl,Ue (z.mono ((Xk s2).trans m3) r1) (Paired.imp2 (λ_ _ h=>⟨h.1,z.mono m3 h.2⟩) pr),rfl⟩⟩ (PZ.tr (fd.tr D) m3 P2)⟩
end
theorem Y3.ex {P:Program}{w:World}{H:Hp}{h:Heap}{a:Addr}{o:HO}(x:Y3 P w H h a o):∃u,h.get? a=some u:=by
 cases o with
 |lst xs=>obtain⟨_,_,_,_,e⟩:=x;exact⟨_,e⟩
 |tup xs=>obtain⟨_,_,_,p⟩:=x;obtain⟨o,e,_⟩:=p;exact⟨_,e⟩
 |dK kvs=>obtain⟨_,_,_,_,o,_,_,e,_⟩:=x;exact⟨_,e⟩
 |dT kvs=>obtain⟨_,_,_,_,o,_,_,e,_⟩:=x;exact⟨_,e⟩
 |set S n=>obtain⟨o,_,_,_,e,_⟩:=x;exact⟨_,e⟩
 |ins C dx fs=>obtain⟨_,_,_,e,_⟩:=x;exact⟨_,e⟩
 |own y=>exact x
 |xd fs=>obtain⟨_,⟨_,_,_,e,_⟩,_⟩:=x;exact⟨_,e⟩
 |rng lo hi=>obtain⟨_,_,_,e⟩:=x;exact⟨_,e⟩
 |frz ob u=>exact⟨_,x.1⟩
 |tbl ps=>exact⟨_,x⟩
 |met f y=>exact⟨_,x⟩
 |ext φ=>exact x.2.1
theorem HOk.un0 {P:Program}{w:World}{H:Hp}{h:Heap}{a:Addr}(x:HOk P w H h)(e:h.get? a=none):H a=none:=by
 cases q:H a with
 |none=>rfl
 |some u=>obtain⟨v,hv⟩:=(x a u q).ex;rw[e] at hv;cases hv
structure Fl (h0 h:Heap)(H:Hp)(a T:Addr)(cls:Value):Prop where
 na:h0.get? a=none
 nT:h0.get? T=none
 fa:H a=none
 fT:H T=none
 ne:T≠a
 obj:∃oe vs oT ts a0,h.get? a=some oe/\oe.cls=cls/\vs[0]?=some a0/\oe.data= .fields vs/\vs[1]?=some (.ref T)/\h.get? T=some oT/\oT.data= .fields ts/\ts[3]?=some Value.none
noncomputable def N2 (h:Heap)(fs:List Addr)(a T:Addr):Heap:=ET h (λb=>if b∈fs∨b=a∨b=T then some (.own 0) else none)
theorem FX {h:Heap}{fs:List Addr}{a T b:Addr}{o:Obj}(e:h.get? b=some o)(n1:b∉fs)(n2:b≠a)(n3:b≠T):(N2 h fs a T).get? b=some o:=
 Dr e (if_neg λz=>z.elim n1 λz=>z.elim n2 n3)
section
variable {P:Program}{w:World}{h0 h h' base:Heap}{H:Hp}{a T:Addr}{cls a0:Value}{l:List Env}
theorem Un.traced (hl:h.FunFrames base l)(keep:∀b o,b∉frs l->b≠a->b≠T->h.get? b=some o->h'.get? b=some o)(up:h.UpToSlots h'):Un (frs l) [a,T] H H h h' where
 keep:=λb o e _ hb hx=>keep b o hb (λz=>hx (by simp[z])) (λz=>hx (by simp[z])) e
 slot:=λb o e _ hb _=>by
  obtain⟨_,o2,ho2,hd2⟩:=hl.mem hb
  rw[e] at ho2;cases ho2
  exact up b o e hd2
 free:=λb o e n _=>n
 there:=λb o e hx=>by
  by_cases hb:b∈frs l
  ·obtain⟨_,o2,ho2,hd2⟩:=hl.mem hb
   obtain⟨sl,q⟩:=up b o2 ho2 hd2
   exact⟨_,q⟩
  ·exact⟨o,keep b o hb (λz=>hx (by simp[z])) (λz=>hx (by simp[z])) e⟩
 tups:=λ_ _ q=>q
 frzs:=λ_ _ _ q=>q
 tbls:=λ_ ps q=>⟨#[],by simpa using q⟩
theorem HOk.traced (hok:HOk P w H h)(hfn:∀b∈frs l,H b=none)(fa:H a=none)(fT:H T=none)(keep:∀b o,b∉frs l->b≠a->b≠T->h.get? b=some o->h'.get? b=some o):HOk P w H h':=λb o e=>by
 refine(hok b o e).stay (λc u hc q=>?_) (λ_ q=>q) λ_ _ q=>q
 have hn:H c≠none:=by
  rcases hc with z |z
  ·rw[z,e];exact λy=>nomatch y
  ·rw[z];exact λy=>nomatch y
 exact keep c u (λz=>hn (hfn c z)) (λz=>hn (z▸fa)) (λz=>hn (z▸fT)) q
theorem Fl.after (x:Fl h0 h H a T cls)(hl:h.FunFrames base l)(hfn:∀b∈frs l,H b=none)(hok:HOk P w H h)(th:∀b o,h0.get? b=some o->∃o',h.get? b=some o')
  (st:(N2 h (frs l) a T).StaysIn h')(tr:h'.TracedW (N2 h (frs l) a T) a cls a0)(up:h.UpToSlots h'):∃T',Fl h0 h' H a T' cls/\HOk P w H h'/\Un (frs l) [a,T] H H h h':=by
 obtain⟨oe,vs,T',oT,ts,ha,⟨hc,h0'⟩,hd,h1,hnT,hne,hT,hdT,h3⟩:=tr
 have key:T'=T∨h.get? T'=none:=by
  cases q:h.get? T' with
  |none=>exact .inr rfl
  |some o=>
   by_cases hf:T'∈frs l
   ·obtain⟨_,o2,ho2,hd2⟩:=hl.mem hf
    obtain⟨sl,e2⟩:=up T' o2 ho2 hd2
    rw[hT] at e2;cases e2
    exact absurd hdT (hd2 ts)
   ·by_cases hz:T'=T
    ·exact .inl hz
    ·rw[FX q hf hne hz] at hnT;cases hnT
 have keep:∀b o,b∉frs l->b≠a->b≠T->h.get? b=some o->h'.get? b=some o:=λb o n1 n2 n3 e=>st b o (FX e n1 n2 n3)
 refine⟨T',⟨x.na,?_,x.fa,?_,hne,oe,vs,oT,ts,a0,ha,hc,h0',hd,h1,hT,hdT,h3⟩,hok.traced hfn x.fa x.fT keep,Un.traced hl keep up⟩
 ·rcases key with e |e
  ·rw[e];exact x.nT
  ·cases q:h0.get? T' with
   |none=>rfl
   |some o=>obtain⟨o',e'⟩:=th _ _ q;rw[e] at e';cases e'
 ·rcases key with e |e
  ·rw[e];exact x.fT
  ·exact hok.un0 e
end
section
variable {fs fs2 ex ex2:List Addr}{H0 H H':Hp}{h0 h h':Heap}
end
section
variable {P:Program}{w:World}{K:PySem.W.Frag}{mg:Str->Option Value}{base:Heap}{N:List Str}{qual:Str}{scope:Scope}{f:Addr}{cd:Value}{A:Around}{outer:List Env}{s0:Shared}{H0:Hp}{E:XK}
end
section
variable {X:Cx}{k j:Nat}{x:Str}{ps:List Str}{sp:Sp}{e:Expr}{es:List Expr}{t:TA}{p pos:Pos}{E:XK}
end
section
variable {X:Cx}{E:XK}{C:Addr}{x:Str}{e:Expr}{es:List Expr}{t:TA}{np cpos pos:Pos}
end
noncomputable abbrev TJ:=St->Hp->(Hp->Prop)->Prop
section
variable {X:Cx}{e:Expr}{es:List Expr}{te:TE}{t:TJ}{n:Nat}{pos p:Pos}
end
noncomputable abbrev Cx.held (X:Cx)(a:Addr)(pn:List (Addr×Obj)):Cx:={X with A:=X.A.mark (some (.ref a)),calm:=false,pn:=pn,xe:=λ_ _=>False}
theorem Cx.Ok.held {X:Cx}(ok:X.Ok)(a:Addr)(pn:List (Addr×Obj)):(X.held a pn).Ok:=
 ⟨ok.mod,ok.kind,ok.glob,ok.blt,ok.above,ok.inj,ok.has,ok.cab,(λz=>nomatch z),ok.frames,ok.stk,ok.exf,ok.bs,ok.bsz,ok.noex,ok.exfs,ok.funs,ok.frf⟩
section
variable {X:Cx}{pins:List (Addr×Obj)}{σ:St}{H:Hp}{s:Shared}{h':Heap}
end
section
variable {X:Cx}{body suite:List Stmt}{b₀:Stmt}{cn n:Str}{Ch:Addr}{i:Nat}{tb:XK->TS}{ts:Addr->Addr->TS}{np hpos pos:Pos}
end
section
variable {K:PySem.W.Frag}{Er:Exc->Hp->Prop}{S:SC}{OO OO' OO2:List (List XH)}{σ:St}{α β γ ρ ι:Type}{α1 α2 α3 α4 α5 α6:Type}{mg:Str->Option Value}{E:XK}
noncomputable def FJ (Q:Hp->Prop)(_:Unit)(H:Hp):Prop:=∀ H',Xz H H'->Q H'
theorem FJ.tr {Q:Hp->Prop}:∀(b:Unit) (H H':Hp),Xz H H'->FJ Q b H->FJ Q b H':=λ_ _ _ s h H2 s2=>h H2 (s.trans s2)
variable {Fd:Ends->β->Hp->Prop}[fd:FdOk Fd]{u:TS}
section
variable {te:XK->TE}{m:Rs α}{ts:Addr->Addr->TS}{N i:Nat}{Ch:Addr}{o:OE ρ}{g:Exc->Rs ρ}{ns:List Str}{d:Str}
end
end
end L2
namespace L2
open PySem PySem.Spec PyProof.Rows PySem.W PySem.Builtin PySem.Builtin.ObjectAttr PySem.Builtin.Getset_descriptor
section
variable {prog:Program}{w:World}{A:Around}{E:Value->Shared->Prop}{K:Frag}{x D:Addr}{s:Shared}
end
theorem EJ {X:Cx}{x:Str}{v:V}{pos:Pos}(h:∃u,X.mg x=some u/\Yo v u)(hg:Gl X x)(hd:(x==("__debug__":Str))=false:=by decide):PE X (.Name x pos) (tC v):=by
 obtain⟨u,hm,r⟩:=h
 exact IW hg hm r hd
theorem PS.nox {X:Cx}{st:Stmt}{t:TS}(h:PS X.nox st t):PS X st t:=λpins s σ H D I hw=>
 wpAny_mono (h pins s σ H D (I.wish _) hw) (λ_ _ q=>q.unwish) λ_ _ z=>False.elim z
section
variable {K:PySem.W.Frag}{C D:Addr}{b:Bool}
end
end L2
namespace L2
open PySem PySem.Spec PyProof.Rows
theorem P3.dropLast {α β γ:Type}{F:α->β->γ->Prop}:∀{l m n},P3 F l m n->P3 F l.dropLast m.dropLast n.dropLast
 |_,_,_, .nil=>.nil
 |_,_,_, .cons _ .nil=>.nil
 |_,_,_, .cons r (.cons q t)=>.cons r (P3.dropLast (.cons q t))
section
variable {α β:Type}{K:PySem.W.Frag}{Er:Exc->Hp->Prop}{S:SC}{OO:List (List XH)}{σ:St}{Fd:Ends->β->Hp->Prop}[fd:FdOk Fd]{u:TS}
end
section
variable {α β γ δ ε:Type}
structure Crs (r:Enc α)(q:Enc β)(d:Nat):Prop where
 no:∀{X:Cx}{pins:List (Addr×Obj)}{σ:St}{H:Hp}{s:Shared}{x:V}{a:α}{b:β},Inv X pins σ H s->r X.K H x a->q X.K H x b->False
 lr:∀{X:Cx}{pins:List (Addr×Obj)}{σ:St}{H:Hp}{s:Shared}{x y:V}{v u:Value}{a:α}{b:β}{A:Around},Inv X pins σ H s->Yo x v->Yo y u->r X.K H x a->q X.K H y b->A.units+d<cLine->SeqAt.EqAt A s v u false/\SeqAt.RcAt A s v u false/\SeqAt.RcNeAt A s v u true
 rl:∀{X:Cx}{pins:List (Addr×Obj)}{σ:St}{H:Hp}{s:Shared}{x y:V}{v u:Value}{a:α}{b:β}{A:Around},Inv X pins σ H s->Yo x v->Yo y u->q X.K H x b->r X.K H y a->A.units+d<cLine->SeqAt.EqAt A s v u false/\SeqAt.RcAt A s v u false/\SeqAt.RcNeAt A s v u true
theorem Crs.up {r:Enc α}{q:Enc β}{d e:Nat}(c:Crs r q d)(h:d<=e):Crs r q e:=⟨c.no,λI rx ry h1 h2 hu=>c.lr I rx ry h1 h2 (by omega),λI rx ry h1 h2 hu=>c.rl I rx ry h1 h2 (by omega)⟩
end
section
variable {K:PySem.W.Frag}{Er:Exc->Hp->Prop}{S:SC}{OO OO' OO1 OO2:List (List XH)}{σ:St}{α β γ ρ ι δ ε ζ:Type}
variable {Fd:Ends->β->Hp->Prop}[fd:FdOk Fd]{u:TS}
noncomputable def getL:α ⊕ γ->Rs α
 | .inl a=>.ok a
 | .inr _=>.bad
noncomputable def getR:α ⊕ γ->Rs γ
 | .inl _=>.bad
 | .inr b=>.ok b
end
end L2
namespace L2
theorem Nn {α:Type}{us:List α}(h:us.length=1):∃a,us=[a]:=List.length_eq_one_iff.mp h
theorem NI {α:Type}{us:List α}(h:us.length=2):∃a0 a1,us=[a0,a1]:=by
 cases us with
 |nil=>cases h
 |cons a0 t=>
  obtain⟨a1,rfl⟩:=Nn (Nat.succ.inj h)
  exact⟨a0,a1,rfl⟩
theorem MI {α:Type}{us:List α}(h:us.length=3):∃a0 a1 a2,us=[a0,a1,a2]:=by
 cases us with
 |nil=>cases h
 |cons a0 t=>
  obtain⟨a1,a2,rfl⟩:=NI (Nat.succ.inj h)
  exact⟨a0,a1,a2,rfl⟩
theorem N8 {α:Type}{us:List α}(h:us.length=4):∃a0 a1 a2 a3,us=[a0,a1,a2,a3]:=by
 cases us with
 |nil=>cases h
 |cons a0 t=>
  obtain⟨a1,a2,a3,rfl⟩:=MI (Nat.succ.inj h)
  exact⟨a0,a1,a2,a3,rfl⟩
end L2
namespace L2
open PySem PySem.Spec PyProof.Rows
section
variable {prog:Program}{w:World}{A:Around}{E:Value->Shared->Prop}
end
section
variable {X:Cx}{pos:Pos}
end
section
variable {K:PySem.W.Frag}{Er:Exc->Hp->Prop}{S:SC}{OO OO' OO1 OO2:List (List XH)}{σ:St}{α β γ ρ ι δ ε ζ:Type}
variable {Fd:Ends->β->Hp->Prop}[fd:FdOk Fd]{u:TS}
end
section
variable {X:Cx}
noncomputable def ipM:TIp:=λx y H Q=>∃ i j,x= .int i/\y= .int j/\NA i j/\Q (.int (i*j)) H
theorem IB:PIp X .Mult ipM:=by
 intro pins s σ H x y v u Q I r1 r2 h
 obtain⟨i,j,e1,e2,hc,q⟩:=h
 subst e1;subst e2
 obtain⟨t,rfl⟩:=r1
 obtain⟨t',rfl⟩:=r2
 exact PySem.AutoIntOps.imul_0 ⟨.int _,H,I.tok _,⟨_,rfl⟩,q⟩ hc.ok
end
section
variable {K:PySem.W.Frag}{Er:Exc->Hp->Prop}{S:SC}{OO OO' OO1 OO2:List (List XH)}{σ:St}{α β γ ρ ι δ ε ζ:Type}
variable {Fd:Ends->β->Hp->Prop}[fd:FdOk Fd]{u:TS}
theorem CZ {te:TE}{m:Rs Int}{f:Int->Rs β}{v:V}{a:Int}(i:Nat)(hσ:σ[i]?=some (some v))(h:∀x,S.p x->Xa K x v a)(he:EvB K Er S OO σ te Xa m)
  (hr:∀b v,Sv Er (S.add K Xa v b) OO (σ.set i (some v)) u Fd (f b)):Sv Er S OO σ (Vi (NZ i te ipM) u) Fd (m.bind λb=>(Qr a b).bind f):=λH D w s P=>
 ⟨v,hσ,he.st w s P λb y H1 s1 w1 q1 r1 P1=>by
  cases e:Qr a b with
  |bad=>rw[e] at P1;exact P1.elim
  |err x=>exact absurd e QB
  |ok c=>
   rw[e] at P1
   obtain⟨h1,h2⟩:=ZD e
   cases h2
   exact⟨a,b,h _ s,r1,h1,hr _ _ H1 D w1 ⟨q1,rfl⟩ P1⟩⟩
end
set_option maxRecDepth 100000
section
variable {prog:Program}{w:World}{A:Around}{E:Value->Shared->Prop}{s:Shared}
theorem G9:typeLookup (.type "list") "keys" =pure none:=by rw[typeLookup_type,builtinLookup_eq_fast];kernel_rfl
theorem Hs {a:Addr}{o:Obj}{xs:Array Value}{k:Nat}{R:Option Value->Shared->Prop}(hx:s.heap.get? a=some o)(hc:o.cls= .type "list")(hdat:o.data= .seq xs k)(hd:o.dict=none)(hA:A.handled=none)
    (h:∀g tk,(∀b u,s.heap.get? b=some u->g.get? b=some u)->R none {s with heap:=g,toks:=tk}):wpAny (model prog w) A (getAttr? (.ref a) "keys") R E s:=by
  obtain⟨c,dct,dat,sl⟩:=o
  simp only at hc hdat hd
  subst hc hdat hd
  obtain⟨hp,g,d,tk,os⟩:=s
  have hT:∀tk',(⟨hp,g,d,tk',os⟩:Shared).TypeIs (.ref a) "list":=λ_=>⟨_,hx,rfl⟩
  have f1:=sub_AttributeError
  have f3:=F.slot_list_getattribute.lookup
  have f4:=F.slot_list_getattribute.bind (.ref a)
  have f5:=am_list_getattr_none
  unfold getAttr? getAttrBy? getAttrBy
  repeat (any_goals (first
    |assumption
    |exact hT _
    | ((with_reducible show wpAny _ _ (call (Value.builtin "list.__getattribute__") _ _) _ _ _)
       refine call_meets F.slot_list_getattribute (hT _) am_entry_list_getattribute (F.args_list_getattribute_2 _ _) (meets_getattribute_miss_list a xs k sl "keys" _ G9 (by decide+kernel)) ⟨hx,hA,λh' tk' e hx'=>?_⟩)
    |wp_step))
  obtain⟨t',u',he⟩:=hx'.there
  show wpAny _ _ (getattributeRaised _ _ _ _ _ _ _) _ _ _
  unfold getattributeRaised
  repeat (any_goals (first |wp_step |assumption))
  exact h _ _ hx'.keeps
theorem Qu:plainId "dict.update.loop" =true:=by decide+kernel
theorem Ut:entryFor table "dict.update.loop" =some Builtin.«dict.update.loop»:=entryFor_of_fast (by kernel_rfl)
end
section
variable {prog:Program}{w:World}{A:Around}{R:Result->Shared->Prop}{K:Type}[DecidableEq K]{knd:KeyKind prog w K}
noncomputable def Mb (knd:KeyKind prog w K)(h:Heap)(its:Array Value)(kv:List (K×Value)):Prop:=its.size=kv.length/\∀(j:Nat) (x:Value) (p:K×Value),its[j]?=some x->kv[j]?=some p->∃t key,x= .ref t/\h.IsTuple t #[key,p.2]/\knd.is p.1 key=true
noncomputable def Kd (acc kv:List (K×Value)):List (K×Value):=kv.foldl (λa p=>stored a p.1 p.2) acc
theorem Cb (acc:List (K×Value))(k:K)(v:Value):(stored acc k v).length<=acc.length+1:=by
 unfold stored
 split
 ·simp
 ·simp
theorem Gx {h:Heap}{t I l:Addr}{i:Nat}{xs:Array Value}(ht:h.IsTuple t xs)(it:h.IsListIter I l i):t≠I:=λe=>by
 subst e
 obtain⟨o,ho,hc,_⟩:=ht
 obtain⟨o',ho',hc',_⟩:=it
 rw[ho] at ho'
 cases ho'
 rw[hc] at hc'
 exact absurd hc' (by decide)
theorem CN {h:Heap}{t d:Addr}{xs:Array Value}{acc:List (K×Value)}(ht:h.IsTuple t xs)(hd:h.DictOf knd d acc):t≠d:=λe=>by
 subst e
 obtain⟨o,ho,hc,_⟩:=ht
 obtain⟨o',_,_,ho',hc',_⟩:=hd
 rw[ho] at ho'
 cases ho'
 have:=hc'.1
 rw[hc] at this
 exact absurd this (by decide)
theorem N3 (hh:A.in1.handled=none){d I l:Addr}(hdI:d≠I)(hlI:l≠I)(hld:l≠d){its:Array Value}{kv:List (K×Value)}:
  ∀(k i:Nat) (s:Shared) (acc:List (K×Value)),its.size-i=k->i<=its.size->s.heap.IsListIter I l i->s.heap.IsList l its->Mb knd s.heap its kv->s.heap.DictOf knd d acc->acc.length+its.size<=sizeLine+i->
  (∀g tk,g.DictOf knd d (Kd acc (kv.drop i))->(∀b o,b≠I->b≠d->s.heap.get? b=some o->g.get? b=some o)->R (.ok (.ret .none)) {s with heap:=g,toks:=tk})->
  codeAny (model prog w) A (.builtin "dict.update.loop" ⟨[.ref d, .ref I,rawInt i, .none],[]⟩) R s:=by
 intro k
 induction k with
 |zero=>
  intro i s acc hk hi it hl hp hd hz r
  refine codeAny_builtin Ut ?_
  rw[Around.under_plainId Qu _]
  show wpAny _ A.in1 (pyNext (.ref I) >>= _) _ _ s
  refine wpAny_bind (wpAny_pyNext_list_end hh it hl (by simp;omega) λg hx=>?_)
  show wpAny _ _ (Builtin.Dict.addKeywords d [] >>= λ_=>ret Value.none) _ _ _
  refine wpAny_bind (wpAny_pure (wpAny_pure (r g s.toks ?_ λb o hb _ e=>hx b o hb e)))
  have e:kv.drop i=[]:=List.drop_eq_nil_of_le (by have:=hp.1;omega)
  rw[e]
  exact hd.extBut hx hdI
 |succ k ih=>
  intro i s acc hk hi it hl hp hd hz r
  have lt:i<its.size:=by omega
  refine codeAny_builtin Ut ?_
  rw[Around.under_plainId Qu _]
  show wpAny _ A.in1 (pyNext (.ref I) >>= _) _ _ s
  refine wpAny_bind (wpAny_pyNext_list_item it hl (x:=its[i]) (by simp[lt]) λg it' hx=>?_)
  have lt2:i<kv.length:=by have:=hp.1;omega
  obtain⟨t,key,et,ht,hkey⟩:=hp.2 i its[i] kv[i] (by simp[lt]) (by simp[lt2])
  have htI:t≠I:=Gx ht it
  have ht1:g.IsTuple t #[key,kv[i].2]:=ht.extBut hx.extBut htI
  obtain⟨o,ho,hc,n,hdt⟩:=id ht1
  rw[et]
  show wpAny _ _ (holding [Value.ref t] _ >>= λ_=>again (.builtin "dict.update.loop" ⟨[.ref d, .ref I,rawInt ((i:Int)+1), .none],[]⟩)) _ _ _
  refine wpAny_bind (wpAny_holding ?_)
  refine wpAny_bind (wpAny_tryCatch ?_)
  unfold Builtin.Dict.pairItems
  refine wpAny_bind (wpAny_typeOf (s:={s with heap:=g}) ⟨o,ho,hc⟩ ?_)
  rw[if_pos (by decide)]
  refine wpAny_bind (wpAny_seqItems (s:={s with heap:=g}) ho hdt (wpAny_pure ?_))
  show wpAny _ _ (holding [key,kv[i].2] (dictSet d key kv[i].2)) _ _ _
  refine wpAny_holding (wpAny_dictSet_pairs (s:={s with heap:=g}) hkey (hd.extBut hx.extBut hdI) (λg2 hd2 hx2=>?_) (by omega))
  refine wpAny_pure ⟨plainId_quiet Qu _,?_⟩
  have hne:∀{b:Addr}{u:Obj},s.heap.get? b=some u->b≠I->b≠d->g2.get? b=some u:=fun {b u} e h1 h2=>(hx2.2 b h2).trans (hx.extBut b u h1 e)
  refine ih (i+1) {s with heap:=g2,toks:=s.toks+1} (stored acc kv[i].1 kv[i].2) (by omega) (by omega) ?_ ?_ ?_ hd2 ?_ ?_
  ·exact it'.extBut hx2.extBut (λe=>hdI e.symm)
  ·exact(hl.extBut hx.extBut hlI).extBut hx2.extBut hld
  ·refine⟨hp.1,λj x p h1 h2=>?_⟩
   obtain⟨t2,key2,e2,ht2,hk2⟩:=hp.2 j x p h1 h2
   exact⟨t2,key2,e2,(ht2.extBut hx.extBut (Gx ht2 it)).extBut hx2.extBut (CN ht2 hd),hk2⟩
  ·have:=Cb acc kv[i].1 kv[i].2
   omega
  ·intro g3 tk hd3 kp
   refine r g3 tk ?_ λb o h1 h2 e=>kp b o h1 h2 (hne e h1 h2)
   rw[List.drop_eq_getElem_cons lt2]
   exact hd3
theorem DX (hh:A.handled=none){E:Value->Shared->Prop}{s:Shared}{l:Addr}{o:Obj}{n:Nat}{its:Array Value}{kv:List (K×Value)}{Q:Value->Shared->Prop}(hx:s.heap.get? l=some o)(hc:o.cls= .type "list")(hdat:o.data= .seq its n)(hd:o.dict=none)(hp:Mb knd s.heap its kv)(hz:its.size<=sizeLine)
  (r:∀g tk,g.DictOf knd s.heap.objs.size (Kd [] kv)->(∀b u,s.heap.get? b=some u->g.get? b=some u)->Q (.ref s.heap.objs.size) {s with heap:=g,toks:=tk}):wpAny (model prog w) A (call (.type "dict") [.ref l]) Q E s:=by
 refine callType_codes (Q₁:=λobj s₁=>obj= .ref s.heap.objs.size/\s₁={s with heap:=s.heap.push {cls:=.type "dict",data:=.dict #[]}}) F.kt_called_dict (F.kt_typeCall_dict_1 _) F.entry_dict_init (kt_code_dict_new _ ⟨rfl,rfl⟩) ?_
 rintro obj s₁ ⟨rfl,rfl⟩
 have hnew:(s.heap.push {cls:=.type "dict",data:=.dict #[]}).DictOf knd s.heap.objs.size []:=Heap.DictOf.new s.heap
 have hx1:(s.heap.push {cls:=.type "dict",data:=.dict #[]}).get? l=some o:=Heap.get?_push_of_some _ hx
 refine⟨hnew.typeIs,F.args_dict_init_2 _ _,?_⟩
 unfold Builtin.«dict.__init__»
 refine wpAny_bind ?_
 unfold Builtin.Dict.selfAndRest
 refine wpAny_bind (wpAny_notOrdered_dict hnew.typeIs ?_)
 show wpAny _ _ (pure (s.heap.objs.size,[Value.ref l])) _ _ _
 refine wpAny_pure ?_
 show wpAny _ _ (Builtin.Dict.updateFrom "dict.__init__" s.heap.objs.size (.ref l) [] .none) _ _ _
 unfold Builtin.Dict.updateFrom
 refine wpAny_bind (wpAny_typeOf ⟨o,hx1,hc⟩ ?_)
 rw[if_pos (by decide)]
 refine wpAny_bind (Hs hx1 hc hdat hd hh λg tk kp=>?_)
 rw[if_pos (show(none:Option Value).isNone=true from rfl)]
 refine wpAny_bind (wpAny_rule ?_)
 have hlg:g.IsList l its:=⟨o,kp _ _ hx1,hc,n,hdat⟩
 have hdg:g.DictOf knd s.heap.objs.size []:=by
  obtain⟨o',es,ep,ho,q⟩:=hnew
  exact⟨o',es,ep,kp _ _ ho,q⟩
 have hdlt:s.heap.objs.size<g.objs.size:=by
  obtain⟨o',es,ep,ho,q⟩:=hdg
  exact Heap.lt_size ho
 have hllt:l<s.heap.objs.size:=Heap.lt_size hx
 refine wpAny_bind (wpAny_pyIter_list (s:={s with heap:=g,toks:=tk}) hlg ?_)
 refine wpAny_pure ⟨plainId_quiet Qu _,?_⟩
 refine N3 (A:=A.in1) (show A.in1.in1.handled=none from hh) (d:=s.heap.objs.size) (I:=g.objs.size) (l:=l) (its:=its) (kv:=kv) (Nat.ne_of_lt hdlt) (Nat.ne_of_lt (Nat.lt_trans hllt hdlt)) (Nat.ne_of_lt hllt) its.size 0 _ [] rfl (Nat.zero_le _) ⟨_,Heap.get?_push_size _ rfl,rfl,rfl⟩ (hlg.push _) ?_ (hdg.push _) (by simpa using hz) ?_
 ·refine⟨hp.1,λj x p h1 h2=>?_⟩
  obtain⟨t2,key2,e2,⟨ot,hot,q⟩,hk2⟩:=hp.2 j x p h1 h2
  exact⟨t2,key2,e2,⟨ot,Heap.get?_push_of_some _ (kp _ _ (Heap.get?_push_of_some _ hot)),q⟩,hk2⟩
 ·intro g2 tk2 hd2 kp2
  refine⟨rfl,r g2 tk2 hd2 λb u e=>?_⟩
  have hb:=Heap.lt_size e
  exact kp2 b u (Nat.ne_of_lt (Nat.lt_trans hb hdlt)) (Nat.ne_of_lt hb) (Heap.get?_push_of_some _ (kp _ _ (Heap.get?_push_of_some _ e)))
end
section
variable {X:Cx}
noncomputable def Jv (acc kvs:List (Key×V)):List (Key×V):=kvs.foldl (λa p=>VS a p.1 p.2) acc
theorem Hx (kvs:List (Key×V))(k:Key)(v:V):(VS kvs k v).length<=kvs.length+1:=by
 unfold VS
 split<;> simp
theorem UJ:∀(kvs acc:List (Key×V)),(Jv acc kvs).length<=acc.length+kvs.length
 | [],acc=>by simp[Jv]
 |p::kvs,acc=>by
  have h1:=UJ kvs (VS acc p.1 p.2)
  have h2:=Hx acc p.1 p.2
  show(Jv (VS acc p.1 p.2) kvs).length<=_
  rw[List.length_cons]
  omega
theorem KV.all {kvs:List (Key×V)}{vs:List (Key×Value)}(t:KV kvs vs):∀{acc:List (Key×V)}{acc':List (Key×Value)},KV acc acc'->KV (Jv acc kvs) (Kd acc' vs):=by
 induction t with
 |nil=>intro acc acc' h;exact h
 | @cons p q kvs vs r _ ih=>
  intro acc acc' h
  have h2:=h.put p.1 r.2
  have e:stored acc' p.1 q.2=stored acc' q.1 q.2:=by rw[r.1]
  rw[e] at h2
  exact ih h2
noncomputable def IA (K:PySem.W.Frag):List V->Hp->VK->Prop:=λxs H Q=>∃ l ps kvs,xs=[.ref l]/\SqL K H l ps/\Paired (λp (kv:Key×V)=>∃ t,p= .ref t/\SqT K H t [kV kv.1,kv.2]) ps kvs/\∀d,H d=none->Q (.ref d) (upd H d (.dK (Jv [] kvs)))
theorem Nd {pins:List (Addr×Obj)}{σ:St}{H:Hp}{s:Shared}(I:Inv X pins σ H s):∀{ps:List V}{kvs:List (Key×V)}{its:List Value},Paired (λp (kv:Key×V)=>∃ t,p= .ref t/\SqT X.K H t [kV kv.1,kv.2]) ps kvs->Ys ps its->∃kv,KV kvs kv/\Mb (Yn X.prog X.w) s.heap its.toArray kv:=fun {ps kvs its} p=>by
 induction p generalizing its with
 |nil=>
  intro v
  cases v
  exact⟨[], .nil,rfl,λj x p h=>by simp at h⟩
 | @cons _ b _ _ r _ ih=>
  intro v
  cases v with
  |cons rv v=>
   obtain⟨kv,h1,h2,h3⟩:=ih v
   obtain⟨t,rfl,ht⟩:=r
   cases rv
   obtain⟨i2,v2,tp,_⟩:=I.tuple ht
   obtain⟨key,val,rfl,e1,e2⟩:=Ys.two v2
   refine⟨(b.1,val)::kv, .cons ⟨rfl,e2⟩ h1,by simpa using h2,λj x p hj hp=>?_⟩
   cases j with
   |zero=>
    simp at hj hp
    subst hj hp
    exact⟨t,key,rfl,tp,Ej e1⟩
   |succ j=>exact h3 j x p (by simpa using hj) (by simpa using hp)
theorem KP (K:PySem.W.Frag)(hK:X.K=K)(hc:X.calm=true):QK X (.type "dict") (IA K):=by
 subst hK
 intro pins s σ H xs us Q I r h
 obtain⟨l,ps,kvs,rfl,hq,hp,q⟩:=h
 obtain⟨u,rfl,ru⟩:=DC r
 cases ru
 obtain⟨its,rv,⟨o,n,ho,hcl,hdn,hdat⟩,hz⟩:=I.list hq
 obtain⟨kv,h1,h2⟩:=Nd I hp rv
 have hlen:=rv.length
 have hl2:=Paired.len hp
 refine DX (knd:=Yn X.prog X.w) (I.ok.hd hc) ho hcl hdat hdn h2 (by simpa[←hlen] using hz) λg tk hd kp=>?_
 refine⟨.ref s.heap.objs.size,_,I.laid (t':=tk) kp (Nat.le_refl _) (show Y3 X.prog X.w _ g _ (.dK (Jv [] kvs)) from⟨Nat.le_trans (UJ kvs []) (by simp;omega),beq_eq_false_iff_ne.mpr (Ne.symm (Nat.ne_of_lt I.big)),_,KV.all h1 .nil,hd⟩),rfl,q _ (I.hok.fresh (Nat.le_refl _))⟩
end
section
variable {X:Cx}{pins:List (Addr×Obj)}{σ:St}{H:Hp}{s:Shared}{d:Addr}{o:Obj}{kvs:List (Key×V)}
theorem BJ {k:Key}{u:Value}(h:KB k u=true):Yo (kV k) u:=by
 cases k with
 |inl n=>
  cases u<;> simp[KB,Value.isInt] at h
  subst h
  exact⟨_,rfl⟩
 |inr x=>
  cases u<;> simp[KB,Value.isStrOf] at h
  subst h
  exact⟨_,rfl⟩
theorem Inv.freeze (I:Inv X pins σ H s)(e:H d=some (.dK kvs))(ho:s.heap.get? d=some o):Inv X pins σ (upd H d (.frz o (.dK kvs))) s:=by
 have x:=(show Y3 X.prog X.w H s.heap d (.dK kvs) from I.hok d _ e)
 exact I.write (t':=s.toks) (x:=d) (e:=d) (h':=s.heap) (by rw[e];exact True.intro) (.inl rfl) (λb u _ q=>q) ⟨o,ho⟩ ⟨ho,x⟩
theorem Inv.thaw (I:Inv X pins σ H s)(e:H d=some (.frz o (.dK kvs)))(n:∀o u,X.H₀ d≠some (.frz o u)):Inv X pins σ (upd H d (.dK kvs)) s:=by
 have ne:∀{b:Addr},H b=none->b≠d:=fun {b} h z=>by rw[z,e] at h;cases h
 refine⟨I.ok,I.os,I.bare,⟨I.base.keep,I.base.slot,λb ob q nn hx=>?_,I.base.there,λb xs q=>?_,λb ob u q=>?_,λb ps q=>?_⟩,I.loc,I.cell,?_,λx c h=>?_,λp hp=>?_,λb u q=>?_,I.len⟩
 ·have h:=I.base.free b ob q nn hx
  rw[XA (ne h)];exact h
 ·have h:=I.base.tups b xs q
  rw[XA (B1 h e (λz=>nomatch z))];exact h
 ·have h:=I.base.frzs b ob u q
  by_cases z:b=d
  ·subst z;exact absurd q (n ob u)
  ·rw[XA z];exact h
 ·obtain⟨more,h⟩:=I.base.tbls b ps q
  exact⟨more,by rw[XA (B1 h e (λz=>nomatch z))];exact h⟩
 ·rw[XA (ne I.free)];exact I.free
 ·rw[XA (ne (I.freeC x c h))];exact I.freeC x c h
 ·obtain⟨h1,h2,h3⟩:=I.pin p hp
  exact⟨h1,by rw[XA (ne h2)];exact h2,h3⟩
 ·by_cases z:b=d
  ·subst z
   rw[YB] at q
   cases q
   obtain⟨_,h⟩:=(show Y3 X.prog X.w H s.heap b (.frz o (.dK kvs)) from I.hok b _ e)
   exact h
  ·rw[XA z] at q
   exact(I.hok b u q).stay (λ_ _ _ r=>r) (λc r=>by rw[XA (B1 r e (λz=>nomatch z))];exact r) λc xs r=>by rw[XA (B1 r e (λz=>nomatch z))];exact r
noncomputable def tFz (i:Nat)(t:TE):TE:=λσ H Q=>∃ d kvs,σ[i]?=some (some (.ref d))/\H d=some (.dK kvs)/\∀o,t σ (upd H d (.frz o (.dK kvs))) λv H'=>H' d=some (.frz o (.dK kvs))/\Q v (upd H' d (.dK kvs))
theorem N4 {x:Expr}{t:TE}(i:Nat)(h:PE X x t):PE X x (tFz i t):=by
 intro pins s σ H Q I ⟨d,kvs,_,e,q⟩
 obtain⟨_,_,vs,_,o,es,ep,ho,_⟩:=(show Y3 X.prog X.w H s.heap d (.dK kvs) from I.hok d _ e)
 refine thn (h pins s σ _ _ (I.freeze e ho) (q o)) λv s1 ⟨y,H1,I1,r1,e1,q1⟩=>⟨y,_,I1.thaw e1 (λo u z=>?_),r1,q1⟩
 have:=I.base.frzs d o u z
 rw[e] at this
 cases this
theorem Inv.dictAt (I:Inv X pins σ H s)(e:H d=some (.frz o (.dK kvs))){es:Array DictEntry}{ep:Nat}(hd:o.data= .dict es ep):(d==sysModules)=false/\∃vs,KV kvs vs/\Heap.DictAt (Yn X.prog X.w) s.heap d vs ep:=by
 obtain⟨h1,_,hs,vs,rel,o',es',ep',g1,g2,g3,g4⟩:=(show Y3 X.prog X.w H s.heap d (.frz o (.dK kvs)) from I.hok d _ e)
 rw[h1] at g1
 cases g1
 rw[hd] at g3
 cases g3
 exact⟨hs,vs,rel,o,es,h1,g2,hd,g4⟩
theorem KV.key {kvs:List (Key×V)}{vs:List (Key×Value)}(h:KV kvs vs):∀{i:Nat} (h1:i<kvs.length) (h2:i<vs.length),(kvs[i]).1=(vs[i]).1:=by
 induction h with
 |nil=>intro i h1;exact absurd h1 (Nat.not_lt_zero _)
 |cons r _ ih=>
  intro i h1 h2
  cases i with
  |zero=>exact r.1
  |succ i=>exact ih (Nat.lt_of_succ_lt_succ h1) (Nat.lt_of_succ_lt_succ h2)
end
section
variable {X:Cx}
end
section
variable {K:PySem.W.Frag}{Er:Exc->Hp->Prop}{S:SC}{OO OO' OO2:List (List XH)}{σ:St}{α β γ ρ ι δ ε:Type}
variable {Fd:Ends->β->Hp->Prop}[fd:FdOk Fd]{u:TS}
noncomputable def rDf {α:Type}(r:Enc α):Enc (List (Int×α)):=λK H v d=>∃ p o kvs,v= .ref p/\H p=some (.frz o (.dK kvs))/\Paired (rDP r K H) kvs d
instance {r:Enc α}[m:MonoE r]:MonoE (rDf r):=⟨λs r9=>by obtain⟨p,o,kvs,e,q,pr⟩:=r9;exact⟨p,o,kvs,e,s _ _ q,Paired.imp2 (λ_ _ z=>⟨z.1,m.mono s z.2⟩) pr⟩⟩
class FlatTE {α:Type}(r:Enc α):Prop where
 flat:∀{K:PySem.W.Frag}{H H':Hp}{v:V}{a:α},(∀b xs,H b=some (.tup xs)->H' b=some (.tup xs))->r K H v a->r K H' v a
class FlatT {α:Type}(o:OE α):Prop where
 flat:∀{K:PySem.W.Frag}{H H':Hp}{v:V}{a:α}{C:List XH},(∀b xs,H b=some (.tup xs)->H' b=some (.tup xs))->o K H v a C->o K H' v a C
instance:FlatTE Xa:=⟨λ_ h=>h⟩
instance:FlatTE X0:=⟨λ_ h=>h⟩
instance {r:Enc α}{q:Enc β}{t:Enc γ}[m:FlatTE r][n:FlatTE q][k:FlatTE t]:FlatTE (rP3 r q t):=⟨λs r9=>by obtain⟨a,x,y,z,e,h,p1,p2,p3⟩:=r9;exact⟨a,x,y,z,e,s _ _ h,m.flat s p1,n.flat s p2,k.flat s p3⟩⟩
instance {r:Enc α}{q:Enc β}[m:FlatTE r][n:FlatTE q]:FlatTE (rP2 r q):=⟨λs r9=>by obtain⟨a,x,y,e,h,p1,p2⟩:=r9;exact⟨a,x,y,e,s _ _ h,m.flat s p1,n.flat s p2⟩⟩
instance {r:Enc α}[m:FlatTE r]:FlatT (oF r):=⟨λs h=>⟨h.1,m.flat s h.2⟩⟩
theorem E2 {te:TE}{o:OE α}[y:FlatT o]{r:Enc γ}[z:MonoE r]{m:Rs α}{v:V}{a:List (Int×γ)}{C:List XH}(i k:Nat)(hσ:σ[i]?=some (some v))(hk:OO[k]?=some C)(h:∀x,S.p x->oD r K x v a C)(hm:∀x,m≠ .err x)
  (he:Ev K Er (S.add K (rDf r) v a) (OO.set k []) (OO.set k []) σ te o m):Ev K Er S OO OO σ (tFz i te) o m:=λH Q w s P=>by
 obtain⟨d,kvs,e,pr,c⟩:=h _ s
 subst c e
 have hp:=Ye hk
 have wk:W ([(d, .dK kvs)]::OO.set k []) H:=w.of hp
 have hH:H d=some (.dK kvs):=wk.cell (d, .dK kvs) (by simp)
 have hnd:d∉fl (OO.set k []):=by
  have:=wk.nd
  rw[X4] at this
  exact λhb=>(List.nodup_append.mp this).2.2 d (by simp) d hb rfl
 have hin:∀{b:Addr},b∈fl OO↔b=d∨b∈fl (OO.set k []):=fun {b}=>by
  rw[←Jf hp b,X4];simp
 refine⟨d,kvs,hσ,hH,λob=>?_⟩
 have hne:∀{b:Addr}{x:HO},b∈fl (OO.set k [])->upd H d x b=H b:=fun {b x} hb=>XA λq=>hnd (q▸hb)
 have wf:W (OO.set k []) (upd H d (.frz ob (.dK kvs))):=⟨λc hc=>by rw[hne (Vn hc)];exact wk.tail.tr c hc,wk.tail.nd,wk.tail.mu⟩
 have hs:Xz (hid H OO) (hid (upd H d (.frz ob (.dK kvs))) (OO.set k [])):=λb x q=>by
  obtain⟨q1,q2⟩:=X5 q
  have hb:b≠d:=λe=>q2 (hin.mpr (.inl e))
  exact Zz (by rw[XA hb];exact q1) λe=>q2 (hin.mpr (.inr e))
 have hf:hid (upd H d (.frz ob (.dK kvs))) (OO.set k []) d=some (.frz ob (.dK kvs)):=Zz YB hnd
 refine he _ _ wf ⟨S.mono _ _ hs s,d,ob,kvs,rfl,hf,Paired.imp2 (λ_ _ q=>⟨q.1,z.mono hs q.2⟩) pr⟩ ?_
 cases em:m with
 |bad=>rw[em] at P;exact P
 |err x=>exact absurd em (hm x)
 |ok b=>
  rw[em] at P
  intro v' D H' s' w' m' ho
  obtain⟨hd1,hd2⟩:=X5 (m' _ _ hf)
  have hne2:∀{b:Addr}{x:HO},b∈fl (D::OO.set k [])->upd H' d x b=H' b:=fun {b x} hb=>XA λq=>hd2 (q▸hb)
  have w2:W ([(d, .dK kvs)]::D::OO.set k []) (upd H' d (.dK kvs)):=by
   refine⟨λc hc=>?_,?_,λc hc=>?_⟩
   ·rw[List.flatten_cons,List.mem_append] at hc
    rcases hc with hc |hc
    ·have:c=(d, .dK kvs):=by simpa using hc
     rw[this];exact YB
    ·rw[hne2 (Vn hc)];exact w'.tr c hc
   ·rw[X4]
    refine List.nodup_append.mpr ⟨by simp,w'.nd,λa ha b hb e=>?_⟩
    have:a=d:=by simpa using ha
    exact hd2 (this▸e▸hb)
   ·rw[List.flatten_cons,List.mem_append] at hc
    rcases hc with hc |hc
    ·have:c=(d, .dK kvs):=by simpa using hc
     rw[this];rfl
    ·exact w'.mu c hc
  have pe:(D::OO).flatten.Perm ([(d, .dK kvs)]::D::OO.set k []).flatten:=by
   simp only[List.flatten_cons]
   refine List.Perm.trans (List.Perm.append_left D (by simpa using hp.symm:OO.flatten.Perm ([(d, .dK kvs)]++(OO.set k []).flatten))) ?_
   rw[←List.append_assoc, ←List.append_assoc]
   exact List.perm_append_comm.append_right _
  have hin2:∀{b:Addr},b∈fl (D::OO)↔b=d∨b∈fl (D::OO.set k []):=fun {b}=>by
   rw[Jf pe b,X4];simp
  refine⟨hd1,P v' D _ (λb x q=>?_) (w2.of pe) (λb x q=>?_) (y.flat (λb xs q=>?_) ho)⟩
  ·by_cases hb:b=d
   ·subst hb;rw[hH] at q;rw[YB];exact q
   ·rw[XA hb];exact s' b x (by rw[XA hb];exact q)
  ·obtain⟨q1,q2⟩:=X5 (m' _ _ (hs b x q))
   have hb:b≠d:=λe=>(X5 q).2 (hin.mpr (.inl e))
   exact Zz (by rw[XA hb];exact q1) λe=>(hin2.mp e).elim hb q2
  ·obtain⟨q1,q2⟩:=X5 q
   have hb:b≠d:=λe=>by rw[e,hd1] at q1;cases q1
   exact Zz (by rw[XA hb];exact q1) λe=>(hin2.mp e).elim hb q2
noncomputable def DU (d ps:List (Int×α)):List (Int×α):=ps.foldl (λd p=>Uq d p.1 p.2) d
theorem K9 {r:Enc α}{H:Hp}{kvs:List (Key×V)}{ps:List (Int×α)}(h:Paired (rDP r K H) kvs ps):∀{acc:List (Key×V)}{d:List (Int×α)},Paired (rDP r K H) acc d->Paired (rDP r K H) (Jv acc kvs) (DU d ps):=by
 induction h with
 |nil=>intro acc d h;exact h
 | @cons kv kx _ _ r _ ih=>
  intro acc d h
  have:=Ue (k:=kx.1) r.2 h
  rw[←r.1] at this
  exact ih this
theorem Ey {r:Enc α}{h H:Hp}(hs:Xz h H){xs:List V}{ps:List (Int×α)}(p:Paired (rP2 Xa r K h) xs ps):∃kvs,Paired (λp (kv:Key×V)=>∃ t,p= .ref t/\SqT K H t [kV kv.1,kv.2]) xs kvs/\Paired (rDP r K h) kvs ps:=by
 induction p with
 |nil=>exact⟨[], .nil, .nil⟩
 | @cons x pr _ _ q _ ih=>
  obtain⟨kvs,h1,h2⟩:=ih
  obtain⟨t,a,b,e,ht,e1,e2⟩:=q
  have e1:a= .int pr.1:=e1
  subst e1
  exact⟨(.inl pr.1,b)::kvs, .cons ⟨t,e,SqT.of (hs _ _ ht)⟩ h1, .cons ⟨rfl,e2⟩ h2⟩
theorem EU {ta:TE}{r:Enc α}[z:MonoE r]{ma:Rs (List (Int×α))}(ha:EvL K Er S OO σ ta (rP2 Xa r) ma):Ev K Er S OO OO σ (tCB (IA K) (X2 ta QV)) (oD r) (ma.bind λps=>.ok (DU [] ps)):=λH Q w s P=>
 ha.run w s FO.tr P λps x H1 s1 w1 q1 ⟨p,xs,e,q,pr⟩ P1=>by
  obtain⟨kvs,h1,h2⟩:=Ey (Xx (H:=H1) (OO:=OO)) pr
  refine⟨p,xs,kvs,by rw[e],SqL.of q,h1,λd hd=>?_⟩
  have hn:=Jj (OO:=OO) hd (o:=.dK (Jv [] kvs))
  exact P1 (.ref d) [(d, .dK (Jv [] kvs))] _ (XL hd _) (w1.new hd rfl) hn ⟨d,_,rfl,Paired.imp2 (λ_ _ h=>⟨h.1,z.mono hn h.2⟩) (K9 h2 .nil),rfl⟩
end
section
variable {prog:Program}{w:World}{A:Around}
end
section
variable {X:Cx}
end
section
variable {K:PySem.W.Frag}{Er:Exc->Hp->Prop}{S:SC}{OO OO' OO1 OO2:List (List XH)}{σ:St}{α β γ ρ ι δ ε:Type}
variable {Fd:Ends->β->Hp->Prop}[fd:FdOk Fd]{u:TS}
theorem Mj {ta tb:TE}{o:OE α}[z:MonoO o]{ma mb:Rs (List α)}(ha:Ev K Er S OO OO1 σ ta (oL o) ma)(hb:∀C,Ev K Er S (C::OO1) (C::OO2) σ tb (oL o) mb):Ev K Er S OO OO2 σ (tOp N6 ta tb) (oL o) (ma.bind λas=>mb.bind λbs=>DL as bs):=λH Q w s P=>by
 refine ha H _ w s ?_
 cases em:ma with
 |bad=>rw[em] at P;exact P
 |err x=>rw[em] at P;exact P
 |ok as=>
  rw[em] at P
  intro v C H1 s1 w1 m1 ho
  refine hb C H1 _ w1 (S.mono _ _ m1 s) ?_
  have P1:PZ Er (FO K OO OO2 (oL o) Q) H (mb.bind λbs=>DL as bs):=P
  cases en:mb with
  |bad=>rw[en] at P1;exact P1
  |err x=>rw[en] at P1;exact λH2 s2=>P1 H2 (s1.trans s2)
  |ok bs=>
   rw[en] at P1
   intro v2 C2 H2 s2 w2 m2 ho2
   have P2:PZ Er (FO K OO OO2 (oL o) Q) H (DL as bs):=P1
   obtain⟨c,hc,P3⟩:=P2.okOf λx=>QB
   obtain⟨hsz,h2⟩:=ZD hc
   cases h2
   obtain⟨p,xs,Cs,e,q,ec⟩:=ho
   obtain⟨p2,ys,Cs2,e2,q2,ec2⟩:=ho2
   subst ec ec2 e e2
   have hp1:H2 p=some (.lst xs):=w2.tr (p, .lst xs) (by simp)
   have hp2:H2 p2=some (.lst ys):=w2.tr (p2, .lst ys) (by simp)
   refine⟨p,p2,xs,ys,rfl,rfl,hp1,hp2,by rw[q.len.1,q2.len.1];exact hsz,λa ha=>?_⟩
   have w3:W ((Cs++Cs2).flatten::OO2) H2:=by
    have pm:((Cs2.flatten::Cs.flatten::OO2)).flatten.Perm (((Cs++Cs2).flatten::OO2)).flatten:=by
     simp only[List.flatten_cons,List.flatten_append]
     rw[←List.append_assoc]
     exact List.perm_append_comm.append_right _
    refine(w2.sub (OO':=Cs2.flatten::Cs.flatten::OO2) ?_).of pm.symm
    simp only[List.flatten_cons,List.cons_append]
    exact(List.Sublist.append (List.Sublist.refl _) (List.sublist_cons_self _ _)).trans (List.sublist_cons_self _ _)
   have m3:Xz (hid H2 (((p2, .lst ys)::Cs2.flatten)::((p, .lst xs)::Cs.flatten)::OO2)) (hid H2 ((Cs++Cs2).flatten::OO2)):=QL (Xz.refl _) λb hb=>by
    rw[X4,List.flatten_append,List.map_append,List.mem_append,List.mem_append] at hb
    rw[X4,X4,List.mem_append,List.mem_append]
    rcases hb with(hb |hb) |hb
    ·exact .inr (.inl (List.mem_cons_of_mem _ hb))
    ·exact .inl (List.mem_cons_of_mem _ hb)
    ·exact .inr (.inr hb)
   have w4:=w3.new ha (o:=.lst (xs++ys)) rfl
   have m4:=Jj (OO:=(Cs++Cs2).flatten::OO2) ha (o:=.lst (xs++ys))
   have pf:((((a, .lst (xs++ys))::(Cs++Cs2).flatten))::OO2).flatten.Perm ([(a,HO.lst (xs++ys))]::(Cs++Cs2).flatten::OO2).flatten:=by simp
   have m5:Xz (hid H2 ((Cs++Cs2).flatten::OO2)) (hid (upd H2 a (.lst (xs++ys))) (((a, .lst (xs++ys))::(Cs++Cs2).flatten)::OO2)):=by
    rw[X8 pf];exact m4
   refine P3 (.ref a) ((a, .lst (xs++ys))::(Cs++Cs2).flatten) _ ((s1.trans s2).trans (XL ha _)) (w4.of pf) (((m1.trans m2).trans m3).trans m5) ⟨a,xs++ys,Cs++Cs2,rfl,?_,rfl⟩
   exact L2.P3.app (q.imp λ_ _ _ h=>z.mono ((m2.trans m3).trans m5) h) (q2.imp λ_ _ _ h=>z.mono (m3.trans m5) h)
end
section
variable {X:Cx}
end
section
variable {K:PySem.W.Frag}{Er:Exc->Hp->Prop}{S:SC}{OO OO' OO1 OO2:List (List XH)}{σ:St}{α β γ ρ ι δ ε:Type}
end
section
variable {K:PySem.W.Frag}{Er:Exc->Hp->Prop}{S:SC}{OO OO' OO1 OO2:List (List XH)}{σ:St}{α β γ ρ ι δ ε:Type}
noncomputable def tk (k:List Int):List Key:=k.map Sum.inl
variable {Fd:Ends->β->Hp->Prop}[fd:FdOk Fd]{u:TS}
end
section
variable {X:Cx}{α:Type}[DecidableEq α]{r:Enc α}{d:Nat}
end
section
variable {K:PySem.W.Frag}{Er:Exc->Hp->Prop}{S:SC}{OO OO' OO1 OO2:List (List XH)}{σ:St}{α β γ ρ ι δ ε:Type}
end
section
variable {X:Cx}{pins:List (Addr×Obj)}{σ:St}{H:Hp}{s:Shared}{h':Heap}
theorem Inv.turns {t':Nat}{ch:List Addr}(I:Inv X pins σ H s)(k:∀b o,b∉ch->s.heap.get? b=some o->h'.get? b=some o)(hf:∀b∈ch,GE X pins H b):Inv X pins σ H {s with heap:=h',toks:=t'}:=by
 have nit:∀b o,H b=some o->b∉ch:=λb o e z=>by rw[(hf b z).1] at e;cases e
 refine I.step (g':=s.gens) (d':=s.drawn) (ch:=ch) (λb hb=>?_) (λb o _ _ hc e _=>k b o hc e) (λb o _ _ hc e _=>⟨o.slots,k b o hc e⟩)
  (λb o _ e n=>n) (λb o hc e=>⟨o,k b o hc e⟩) (λb xs e=>e) (λb o xs e=>e) (λb ps e=>⟨#[],by rw[e];simp⟩) (λm hm=>?_) (λb v e=>?_) I.bare
 ·obtain⟨f0,f1,f2,f3,f4,f5⟩:=hf b hb
  exact⟨f3,f1,f4,f5⟩
 ·obtain⟨o,es,ep,ho,r⟩:=hm
  exact⟨o,es,ep,k _ o (λz=>(hf _ z).2.1 rfl) ho,r⟩
 ·refine(I.hok b v e).stay (λc o hc q=>k c o ?_ q) (λc q=>q) λc xs q=>q
  rcases hc with z |z
  ·rw[z];exact nit b v e
  ·exact nit c _ z
end
noncomputable def Itz (K:PySem.W.Frag)(a b:Addr):It:=
 ⟨λi H=>∃ xs ys x y,SqL K H a xs/\SqL K H b ys/\xs[i]?=some x/\ys[i]?=some y,λi H v H'=>∃ p x y,v= .ref p/\H p=none/\H'=upd H p (.tup [x,y])/\(∀xs,SqL K H a xs->xs[i]?=some x)/\∀ys,SqL K H b ys->ys[i]?=some y,
  λi H=>∃ xs ys,SqL K H a xs/\SqL K H b ys/\(xs.length<=i∨ys.length<=i)⟩
theorem OF {b z t u v x:Addr}(h:b∉ [z,t,u,v,x]):b≠z/\b≠t/\b≠u/\b≠v/\b≠x:=⟨λe=>h (e▸ .head _),λe=>h (e▸ .tail _ (.head _)),λe=>h (e▸ .tail _ (.tail _ (.head _))),λe=>h (e▸ .tail _ (.tail _ (.tail _ (.head _)))),λe=>h (e▸ .tail _ (.tail _ (.tail _ (.tail _ (.head _)))))⟩
theorem OJ {p:Addr->Prop}{z t u v x:Addr}(h1:p z)(h2:p t)(h3:p u)(h4:p v)(h5:p x):∀b∈[z,t,u,v,x],p b:=
 List.forall_mem_cons.mpr ⟨h1,List.forall_mem_cons.mpr ⟨h2,List.forall_mem_cons.mpr ⟨h3,List.forall_mem_cons.mpr ⟨h4,List.forall_mem_cons.mpr ⟨h5,λ_ h=>(List.not_mem_nil h).elim⟩⟩⟩⟩⟩
theorem HE {P:Program}{w:World}{K:PySem.W.Frag}{elts:List Expr}{k:Nat}{pos:Pos}{z TI TO i1 i2 l1 l2:Addr}(ap:ZipApart z TI TO i1 i2 l1 l2):
  Turn P w K (.Tuple elts k pos) (Itz K l1 l2) [z,TI,TO,i1,i2] z (λi h=>IsZip h z TI TO .none/\IsPair h TI (.ref i1) (.ref i2)/\(∃a b,IsPair h TO a b)/\h.IsListIter i1 l1 i/\h.IsListIter i2 l2 i) where
 mem:=.head _
 obj:=λi h st=>by
  obtain⟨h1,h2,⟨a,c,h3⟩,⟨o4,h4,c4,d4⟩,⟨o5,h5,c5,d5⟩⟩:=st
  exact OJ ⟨_,h1,λv z=>by cases z⟩ ⟨_,h2,λv z=>by cases z⟩ ⟨_,h3,λv z=>by cases z⟩ ⟨o4,h4,λv z=>by rw[d4] at z;cases z⟩ ⟨o5,h5,λv z=>by rw[d5] at z;cases z⟩
 keep:=λi h h' st k=>⟨k z (.head _) _ st.1,k TI (.tail _ (.head _)) _ st.2.1,let ⟨a,b,q⟩:=st.2.2.1;⟨a,b,k TO (.tail _ (.tail _ (.head _))) _ q⟩,st.2.2.2.1.at λo q=>k i1 (.tail _ (.tail _ (.tail _ (.head _)))) o q,st.2.2.2.2.at λo q=>k i2 (.tail _ (.tail _ (.tail _ (.tail _ (.head _))))) o q⟩
 item:=by
  intro X hP hw hK hc i pins s σ H E I hf st hg
  subst hP hw hK
  obtain⟨xs,ys,x,y,hq1,hq2,hx,hy⟩:=hg
  obtain⟨its1,rv1,p1,_⟩:=I.list hq1
  obtain⟨its2,rv2,p2,_⟩:=I.list hq2
  obtain⟨u,hu,ru⟩:=rv1.get hx
  obtain⟨v,hv,rv⟩:=rv2.get hy
  obtain⟨h1,h2,⟨a,c,h3⟩,h4,h5⟩:=id st
  refine wpAny_pyNext_zip_item ap h1 h2 h3 h4 h5 p1.isList p2.isList (x:=u) (y:=v) (by simpa using hu) (by simpa using hv) λh' z' TO' i1' i2' tup sz kk=>?_
  have hT:∀b o,s.heap.get? b=some o->s.heap.objs.size≠b:=λb o q z=>absurd (Heap.lt_size q) (by rw[←z];exact Nat.lt_irrefl _)
  have tz:=hT z _ h1
  have tTI:=hT TI _ h2
  have tTO:=hT TO _ h3
  have t1:s.heap.objs.size≠i1:=by obtain⟨o,q,_⟩:=h4;exact hT i1 o q
  have t2:s.heap.objs.size≠i2:=by obtain⟨o,q,_⟩:=h5;exact hT i2 o q
  refine⟨_,rfl,wpAny_letOwnedTupleGo_zip z' λh'' z'' sb=>?_⟩
  have k1:∀b o,b≠z->h'.get? b=some o->h''.get? b=some o:=λb o hb e=>(sb.2 b hb).trans e
  have k2:∀b o,b∉ [z,TI,TO,i1,i2]->s.heap.get? b=some o->h''.get? b=some o:=λb o q1 q=>let f:=OF q1;k1 b o f.1 (kk b o f.1 f.2.2.1 f.2.2.2.1 f.2.2.2.2 q)
  refine⟨.ref s.heap.objs.size,upd H s.heap.objs.size (.tup [x,y]),I.turnLay (h':=h'') (t':=s.toks) k2 hf (Nat.le_refl _) ⟨by show 2<=sizeLine;decide,[u,v], .cons ru (.cons rv .nil),⟨_,k1 _ _ tz tup,⟨rfl,rfl⟩,_,rfl⟩⟩,rfl,
   ⟨_,x,y,rfl,I.hok.fresh (Nat.le_refl _),rfl,λzs hz=>by rw[I.list_inj hz hq1];exact hx,λzs hz=>by rw[I.list_inj hz hq2];exact hy⟩,⟨z'',k1 _ _ ap.TIz (kk _ _ ap.TIz ap.TITO ap.TIi1 ap.TIi2 h2),⟨_,_,k1 _ _ ap.TOz TO'⟩,i1'.at λo q=>k1 _ _ ap.i1z q,i2'.at λo q=>k1 _ _ ap.i2z q⟩,λb hb=>?_⟩
  exact(XA (OJ (p:=λb=>b≠s.heap.objs.size) tz.symm tTI.symm tTO.symm t1.symm t2.symm b hb)).trans (hf b hb).1
 done:=by
  intro X hP hw hK hc i pins s σ H E I hf st hg
  subst hP hw hK
  obtain⟨xs,ys,hq1,hq2,hx⟩:=hg
  obtain⟨its1,rv1,p1,_⟩:=I.list hq1
  obtain⟨its2,rv2,p2,_⟩:=I.list hq2
  obtain⟨h1,h2,⟨a,c,h3⟩,h4,h5⟩:=id st
  have hl1:=rv1.length
  have hl2:=rv2.length
  refine wpAny_pyNext_zip_end (I.ok.hd hc) ap h1 h2 h3 h4 h5 p1.isList p2.isList (hx.elim (λh=>.inl (by simp;omega)) λh=>.inr (by simp;omega)) λh' kk=>⟨rfl,I.turns (t':=s.toks) (ch:=[z,TI,TO,i1,i2]) (λb o q1 q=>let f:=OF q1;kk b o f.1 f.2.2.1 f.2.2.2.1 f.2.2.2.2 q) hf⟩
 self:=λ_ _ _ _ _ st h=>wpAny_pyIter_zip st.1 h
section
variable {X:Cx}{elts:List Expr}{k:Nat}{pos0:Pos}
noncomputable def Ox (K:PySem.W.Frag)(t:TA):TI:=λσ H R=>t σ H λvs H1=>∃ a b,vs=[.ref a, .ref b]/\(∃xs,SqL K H1 a xs)/\(∃ys,SqL K H1 b ys)/\R (Itz K a b) H1
theorem IC {e:Expr}{es:List Expr}{t:TA}{p pos:Pos}(K:PySem.W.Frag)(hK:X.K=K)(hg:Gl X "zip")(hm:X.mg "zip" =none)(ha:PA X (e::es) t)
  (he:starEach (e::es) X.env=(false,eval e X.env)::starEach es X.env:=by rfl)(hpl:(backTo pos (starEach es X.env)).any (·.1)=false:=by rfl):PI X (.Tuple elts k pos0) (.Call (.Name "zip" p) (e::es) [] pos) (Ox K t):=by
 subst hK
 intro pins s σ H R I h
 refine wpAny_Call_Name_kw (U2 I hg hm boot_zip ?_)
 refine PyProof.Rows.callWith_type1 (thn (ha pos pins s σ H _ I h) λus s1 r9=>?_) he hpl
 obtain⟨vs,H1,I1,r1,q1⟩:=r9
 obtain⟨a,b,rfl,⟨xs,hq1⟩,⟨ys,hq2⟩,q⟩:=q1
 obtain⟨u,v,rfl,ru,rv⟩:=Ys.two r1
 cases ru
 cases rv
 obtain⟨its1,_,pl1,_⟩:=I1.list hq1
 obtain⟨its2,_,pl2,_⟩:=I1.list hq2
 have l1:a<s1.heap.objs.size:=by obtain⟨o,n,ho,_⟩:=pl1;exact Heap.lt_size ho
 have l2:b<s1.heap.objs.size:=by obtain⟨o,n,ho,_⟩:=pl2;exact Heap.lt_size ho
 refine call_zip_2 pl1.isList pl2.isList λh' hz hTI hTO i1 i2 sz kk=>?_
 refine wpAny_pyIter_zip hz ?_
 have hge:∀c:Nat,s1.heap.objs.size<=c->GE X pins H1 c:=λc hc=>I1.fpOk hc (I1.hok.fresh hc)
 generalize s1.heap.objs.size=n0 at l1 l2 hz hTI hTO i1 i2 hge⊢
 have l1': @LT.lt Nat _ a n0:=l1
 have l2': @LT.lt Nat _ b n0:=l2
 have ap:ZipApart (n0+4) (n0+2) (n0+3) n0 (n0+1) a b:=by
  constructor<;> (intro z;have z: @Eq Nat _ _:=z;omega)
 refine⟨_,[n0+4,n0+2,n0+3,n0,n0+1],_,_,H1,rfl,I1.kept (t':=s1.toks) kk,HE ap,⟨hz,hTI,⟨_,_,hTO⟩,i1,i2⟩,λc hb=>hge c ?_,q⟩
 simp only[List.mem_cons,List.not_mem_nil,or_false] at hb
 rcases hb with rfl |rfl |rfl |rfl |rfl
 ·exact Nat.le_add_right _ _
 ·exact Nat.le_add_right _ _
 ·exact Nat.le_add_right _ _
 ·exact Nat.le_refl _
 ·exact Nat.le_add_right _ _
end
section
variable {K:PySem.W.Frag}{Er:Exc->Hp->Prop}{S:SC}{OO OO' OO1 OO2:List (List XH)}{σ:St}{α β γ ρ ι δ ε:Type}
theorem F7 {ta tb:TE}{r:Enc α}{q:Enc γ}[z:MonoE r][y:MonoE q]{ma:Rs (List α)}{mb:Rs (List γ)}(ha:EvS K Er S OO σ ta (rV r) ma)(hb:EvS K Er S OO σ tb (rV q) mb):Walk K Er S OO σ (Ox K (X2 ta (X2 tb QV))) (rP2 r q) (ma.bind λas=>mb.bind λbs=>.ok (as.zip bs)):=⟨fun {H R} w s P=>by
 refine ha H _ w s ?_
 cases em:ma with
 |bad=>rw[em] at P;exact P
 |err x=>rw[em] at P;exact P
 |ok as=>
  rw[em] at P
  intro v H1 s1 ⟨p,xs,e,hp,pr⟩
  refine hb H1 _ (w.keep s1) (S.mono _ _ (Xk s1) s) ?_
  have P1:PZ Er _ H (mb.bind λbs=>.ok (as.zip bs)):=P
  cases en:mb with
  |bad=>rw[en] at P1;exact P1
  |err x=>rw[en] at P1;exact λH2 s2=>P1 H2 (s1.trans s2)
  |ok bs=>
   rw[en] at P1
   intro v2 H2 s2 ⟨p2,ys,e2,hp2,pr2⟩
   have hp':=Xk (OO:=OO) s2 _ _ hp
   refine⟨p,p2,by rw[e,e2],⟨xs,SqL.of (Xx _ _ hp')⟩,⟨ys,SqL.of (Xx _ _ hp2)⟩,P1 _ H2 (s1.trans s2) ?_ ?_⟩
   ·intro i c hc OO2 H3 w3 m3
    rw[List.getElem?_zip_eq_some] at hc
    obtain⟨x,hx,rx⟩:=Paired.getR pr hc.1
    obtain⟨x2,hx2,rx2⟩:=Paired.getR pr2 hc.2
    have q1:SqL K H3 p xs:=SqL.of (Xx _ _ (m3 _ _ hp'))
    have q2:SqL K H3 p2 ys:=SqL.of (Xx _ _ (m3 _ _ hp2))
    refine⟨⟨xs,ys,x,x2,q1,q2,hx,hx2⟩,λyv H4 h4=>?_⟩
    obtain⟨b,x',y',rfl,hb,rfl,g1,g2⟩:=h4
    have e1:=g1 xs q1
    have e3:=g2 ys q2
    rw[hx] at e1
    rw[hx2] at e3
    cases e1
    cases e3
    refine⟨XL hb _,⟨b,x,x2,rfl,ZZ w3 hb,z.mono (((Xk s2).trans m3).trans (Xk (XL hb _))) rx,y.mono (m3.trans (Xk (XL hb _))) rx2⟩⟩
   ·intro OO2 H3 w3 m3
    refine⟨xs,ys,SqL.of (Xx _ _ (m3 _ _ hp')),SqL.of (Xx _ _ (m3 _ _ hp2)),?_⟩
    rw[List.length_zip,Paired.len pr,Paired.len pr2]
    omega⟩
end
section
variable {X:Cx}
theorem Kb (K:PySem.W.Frag)(hK:X.K=K):ON X (Ib K):=by
 subst hK
 intro pins s σ H x y v u Q I rx ry h
 obtain⟨p,xs,i,z,rfl,rfl,hq,he,q⟩:=h
 cases rx
 obtain⟨t,rfl⟩:=ry
 obtain⟨its,r,pl,hz⟩:=I.list hq
 obtain⟨j,h1,h2,h3,h4,h5⟩:=GK he
 obtain⟨w,ew,rw'⟩:=r.get h2
 have hl:=r.length
 have hn:=Gc
 have fin:EP X pins σ Q w s:=⟨z,H,I,rw',q⟩
 by_cases h0:0<=i
 ·have hj:i.toNat=j:=by
   rw[seqIndex_of h0 h5] at h1
   exact Option.some.inj h1
  exact wpAny_getItem_list pl.isList h0 (by omega) (by rw[hj];simpa using ew) fin
 ·have hj:(i+(its.toArray.size:Int)).toNat=j:=by
   rw[seqIndex_neg (by omega) h4] at h1
   rw[List.size_toArray, ←hl]
   exact Option.some.inj h1
  exact wpAny_getItem_list_neg pl.isList (by omega) (by rw[List.size_toArray]<;> omega) (by omega) (by rw[hj];simpa using ew) fin
end
section
variable {K:PySem.W.Frag}{Er:Exc->Hp->Prop}{S:SC}{OO OO' OO1 OO2:List (List XH)}{σ:St}{α β γ ρ ι δ ε:Type}
variable {Fd:Ends->β->Hp->Prop}[fd:FdOk Fd]{u:TS}
theorem Ka {ti te:TE}{g:Int->Int->Int}{mi m:Rs Int}{f:List Int->Rs β}{v:V}{as:List Int}{C:List XH}(i k:Nat)(hσ:σ[i]?=some (some v))(hk:OO[k]?=some C)(h:∀x,S.p x->oL (oF Xa) K x v as C)(hi:EvB K Er S OO σ ti Xa mi)(he:EvB K Er S OO σ te Xa m)
  (hr:∀bs C',Sv Er (S.addO K (oL (oF Xa)) v bs C') (OO.set k C') σ u Fd (f bs)):Sv Er S OO σ (Vi (Nx (GF i) ti te (Ib K) (ipI g) IZ) u) Fd (mi.bind λj=>(atR as j).bind λx=>m.bind λb=>(QO as j (g x b)).bind f):=λH D w s P=>
 ⟨v,hσ,hi.st w s P λj zj H1 s1 w1 q1 r1 P1=>by
  cases ea:atR as j with
  |bad=>rw[ea] at P1;exact P1.elim
  |err x=>exact absurd ea K3
  |ok x=>
   rw[ea] at P1
   obtain⟨kk,hkk,hrow⟩:=IH ea
   obtain⟨p,xs,Cs,e,q,c⟩:=h _ q1
   subst c
   have hH:H1 p=some (.lst xs):=w1.tr (p, .lst xs) (List.mem_flatten.mpr ⟨_,List.mem_of_getElem? hk,List.mem_cons_self⟩)
   obtain⟨xv,Dv,g1,g2,g3⟩:=q.get hrow
   refine⟨p,xs,j,xv,e,r1,SqL.of hH,by unfold atI;rw[q.len.1,hkk];exact g1,he.st w1 q1 P1 λb y H2 s2 w2 q2 r2 P2=>⟨x,b,g3.2,r2,?_⟩⟩
   have hH2:H2 p=some (.lst xs):=w2.tr (p, .lst xs) (List.mem_flatten.mpr ⟨_,List.mem_of_getElem? hk,List.mem_cons_self⟩)
   have es:QO as j (g x b)= .ok (as.set kk (g x b)):=by unfold QO;rw[hkk]
   rw[es] at P2
   have hjl:kk<as.length:=(List.getElem?_eq_some_iff.mp hrow).1
   have hjC:kk<Cs.length:=by rw[q.len.2];exact hjl
   have hp:=Ki (Cs:=Cs) (j:=kk) (D:=[]) hjC
   obtain⟨w3,m3⟩:=MN (xs':=xs.set kk (.int (g x b))) (Cs':=Cs.set kk []) w2.nil hk (λc hc=>hp.mem_iff.mp (List.mem_append_left _ hc)) (Qf hp (Qx w2.nil hk))
   rw[Zs] at m3
   refine⟨p,xs,j,kk,e,r1,hH2,by rw[q.len.1];exact hkk,hr _ _ _ D w3 ⟨S.mono _ _ m3 q2,⟨p,_,_,e,P3.imp (λ_ _ _ z=>MonoO.mono m3 z) (P3.set (show oF Xa K _ (.int (g x b)) (g x b) [] from⟨rfl,rfl⟩) kk (P3.imp (λ_ _ _ z=>MonoO.mono (Xk s2) z) q)),rfl⟩⟩ (PZ.tr (fd.tr D) m3 P2)⟩⟩
end
section
variable {K:PySem.W.Frag}{Er:Exc->Hp->Prop}{S:SC}{OO OO' OO1 OO2:List (List XH)}{σ:St}{α β γ ρ ι δ ε:Type}{u:TS}
noncomputable def Vo:Nat->γ->(γ->Rs Bool)->(γ->Rs (Ctl ρ γ))->Rs (Ctl ρ γ)
 |0,_,_,_=>.bad
 |n+1,g,c,f=>(c g).bind λb=>if b=true then(f g).bind λr=>match r with
  | .ret r=>.ok (.ret r)
  | .nx g'=>Vo n g' c f else .ok (.nx g)
theorem B3 {o:OE ρ}{c:TT}{tb:TS}{mc:γ->Rs Bool}{body:γ->Rs (Ctl ρ γ)}{f:γ->Rs ρ}(J:Jn γ ι)(n:Nat)(x0:ι)(g0:γ)(h1:OO=J.oo x0)(h2:σ=J.ss x0)(h3:∀h,S.p h->(J.sc g0 x0).p h)
  (hc:∀g x,EvT Er (J.sc g x) (J.oo x) (J.ss x) c (mc g))(hb:∀g x,Sv Er (J.sc g x) (J.oo x) (J.ss x) tb (FCd K o J) (body g))
  (hr:∀g x,Sv Er (J.sc g x) (J.oo x) (J.ss x) u (FTd K o) (f g)):Sv Er S OO σ (Vi (Cp c tb) u) (FTd K o) ((Vo n g0 mc body).bind (Q4 f)):=λH D w s P=>by
 refine⟨λmm σ' H2=>∃ x gg,σ'=J.ss x/\W (J.oo x) H2/\(J.sc gg x).p (hid H2 (J.oo x))/\PZ Er (FTd K o D) (hid H2 (J.oo x)) ((Vo mm gg mc body).bind (Q4 f)),⟨n,x0,g0,h2,by rw[←h1];exact w,by rw[←h1];exact h3 _ s,by rw[←h1];exact P⟩,?_⟩
 rintro mm σ' H2 ⟨x,gg,rfl,w2,sc2,P2⟩
 cases mm with
 |zero=>exact P2.elim
 |succ mm=>
  have P3:PZ Er (FTd K o D) (hid H2 (J.oo x)) ((mc gg).bind λb=>(if b=true then(body gg).bind λr=>match r with
   | .ret r=>.ok (.ret r)
   | .nx g'=>Vo mm g' mc body else .ok (.nx gg)).bind (Q4 f)):=by rw[←YF];exact P2
  refine(hc gg x).st w2 sc2 P3 λb H3 w3 sc3 P4=>?_
  cases b with
  |false=>exact hr gg x H3 D w3 sc3 P4
  |true=>
   rw[if_pos rfl] at P4⊢
   refine⟨λσ3 H4=>∃ x gg,σ3=J.ss x/\W (J.oo x) H4/\(J.sc gg x).p (hid H4 (J.oo x))/\PZ Er (FTd K o D) (hid H4 (J.oo x)) ((Vo mm gg mc body).bind (Q4 f)),λσ3 H4 q=>⟨mm,Nat.lt_succ_self _,q⟩,hb gg x H3 _ w3 sc3 ?_⟩
   rw[YF] at P4
   cases eb:body gg with
   |bad=>rw[eb] at P4;exact P4
   |err x=>rw[eb] at P4;exact P4
   |ok c=>
    rw[eb] at P4
    cases c with
    |ret r=>exact P4
    |nx g'=>exact λx' H5 w5 m5 sc5=>⟨x',g',rfl,w5,sc5,PZ.tr (FdOk.tr D) m5 P4⟩
end
section
variable {X:Cx}
theorem En:OpR X (compareOp .IsNot) (λx y H Q=>∃ a b:Bool,x= .bl a/\y= .bl b/\Q (.bl (!(a==b))) H):=by
 intro pins s σ H x y v u Q I rx ry h
 obtain⟨a,b,rfl,rfl,q⟩:=h
 cases rx
 cases ry
 show wpAny _ _ (isSame (Value.bool a) (Value.bool b) >>= λr=>pure (Value.bool !r)) _ _ _
 have e:isSame (Value.bool a) (Value.bool b)=pure (a==b):=by cases a<;> cases b<;> rfl
 rw[e]
 exact wpAny_bind (wpAny_pure (wpAny_pure ⟨.bl (!(a==b)),H,I,rfl,q⟩))
end
section
variable {K:PySem.W.Frag}{Er:Exc->Hp->Prop}{S:SC}{OO:List (List XH)}{σ:St}
theorem EV {ta:TE}{b:Bool}{ma:Rs Bool}(ha:EvB K Er S OO σ ta X0 ma):EvB K Er S OO σ (tOp (λx y H Q=>∃ a b:Bool,x= .bl a/\y= .bl b/\Q (.bl (!(a==b))) H) ta (tC (.bl b))) X0 (ma.bind λa=>.ok (!(a==b))):=λH Q w s P=>
 ha.run w s FB.tr P λa x H1 s1 w1 q1 r1 P1=>⟨a,b,r1,rfl,P1 _ H1 (Xz.refl _) rfl⟩
end
section
variable {X:Cx}{pins:List (Addr×Obj)}{σ:St}{H:Hp}{s:Shared}{d:Addr}{o:Obj}{kvs:List (Key×V)}
theorem UF:entryFor table "dict_itemiterator.__iter__" =some Builtin.«dict_keyiterator.__iter__»:=
 entryFor_alias (id':="dict_keyiterator.__iter__") (by kernel_rfl) rfl (by decide+kernel) (by kernel_rfl)
theorem VY {prog:Program}{w:World}{A:Around}{E:Value->Shared->Prop}{it d:Addr}{i n ep:Nat}{ok ov:Value}{Q:Value->Shared->Prop}(hit:IsItemIter s.heap it d i n ep ok ov)(h:Q (.ref it) s):wpAny (model prog w) A (pyIter (.ref it)) Q E s:=by
 have ht:s.TypeIs (.ref it) "dict_itemiterator":=⟨_,hit,rfl⟩
 refine wpAny_pyIter_slot ht F.slot_dict_itemiterator_iter (wpAny_call_entry F.slot_dict_itemiterator_iter ht UF ?_ (F.args_dict_itemiterator_iter_1 _))
 show wpAny _ _ (ret (.ref it)) _ _ s
 exact wpAny_pure ⟨_,rfl,"dict_itemiterator",_,ht,F.slot_dict_itemiterator_next.lookup,h⟩
theorem KV.valAt {kvs:List (Key×V)}{vs:List (Key×Value)}(h:KV kvs vs):∀{i:Nat} (h1:i<kvs.length) (h2:i<vs.length),Yo (kvs[i]).2 (vs[i]).2:=by
 induction h with
 |nil=>intro i h1;exact absurd h1 (Nat.not_lt_zero _)
 |cons r _ ih=>
  intro i h1 h2
  cases i with
  |zero=>exact r.2
  |succ i=>exact ih (Nat.lt_of_succ_lt_succ h1) (Nat.lt_of_succ_lt_succ h2)
noncomputable def Iti (d:Addr)(o:Obj)(kvs:List (Key×V)):It:=
 ⟨λi H=>H d=some (.frz o (.dK kvs))/\i<kvs.length,λi H v H'=>∃ p kv,v= .ref p/\H p=none/\H'=upd H p (.tup [kV kv.1,kv.2])/\kvs[i]?=some kv,λi H=>H d=some (.frz o (.dK kvs))/\kvs.length<=i⟩
theorem Dy {P:Program}{w:World}{K:PySem.W.Frag}{elts:List Expr}{k:Nat}{pos:Pos}{es:Array DictEntry}{ep:Nat}(d it:Addr)(o:Obj)(kvs:List (Key×V))(hd:o.data= .dict es ep):Turn P w K (.Tuple elts k pos) (Iti d o kvs) [it] it (λi h=>∃ ok ov,IsItemIter h it d i kvs.length ep ok ov) where
 mem:=.head _
 obj:=λi h st b hb=>by
  have e:b=it:=List.mem_singleton.mp hb
  subst e
  obtain⟨ok,ov,e⟩:=st
  exact⟨_,e,λv z=>by cases z⟩
 keep:=λi h h' ⟨ok,ov,st⟩ k=>⟨ok,ov,k it (.head _) _ st⟩
 item:=by
  intro X hP hw hK hc i pins s σ H E I hf st hg
  subst hP hw hK
  obtain⟨he,hlt⟩:=hg
  obtain⟨_,vs,rel,da⟩:=I.dictAt he hd
  have hl:=rel.length
  obtain⟨ok,ov,st⟩:=st
  rw[hl] at st
  have hlt':i<kvs.length:=hlt
  have hv:vs[i]?=some (vs[i].1,vs[i].2):=by simp[show i<vs.length by omega]
  refine wpAny_pyNext_items_item st da hv λkey h' hk out tup sz kk=>?_
  have tz:s.heap.objs.size≠it:=λz=>absurd (Heap.lt_size st) (by rw[←z];exact Nat.lt_irrefl _)
  refine⟨_,rfl,wpAny_letOwnedTupleGo_items out λh'' st'' sb=>?_⟩
  have k1:∀b o,b≠it->h'.get? b=some o->h''.get? b=some o:=λb o hb e=>(sb.2 b hb).trans e
  have k2:∀b o,b∉ [it]->s.heap.get? b=some o->h''.get? b=some o:=λb o q1 q=>k1 b o (λe=>q1 (e▸ .head _)) (kk b o (λe=>q1 (e▸ .head _)) q)
  have hkv:(kvs[i]).1=(vs[i]).1:=KV.key rel hlt' (by omega)
  refine⟨.ref s.heap.objs.size,upd H s.heap.objs.size (.tup [kV (kvs[i]).1,(kvs[i]).2]),I.turnLay (h':=h'') (t':=s.toks) k2 hf (Nat.le_refl _) ⟨by show 2<=sizeLine;decide,[key,(vs[i]).2], .cons (by rw[hkv];exact BJ hk) (.cons (KV.valAt rel hlt' (by omega)) .nil),⟨_,k1 _ _ tz tup,⟨rfl,rfl⟩,_,rfl⟩⟩,rfl,
   ⟨_,kvs[i],rfl,I.hok.fresh (Nat.le_refl _),rfl,by simp[hlt']⟩,⟨_,_,by rw[hl];exact st''⟩,λb hb=>?_⟩
  have h0:=(hf b hb).1
  have e:b=it:=List.mem_singleton.mp hb
  rw[XA (by rw[e];exact tz.symm)];exact h0
 done:=by
  intro X hP hw hK hc i pins s σ H E I hf st hg
  subst hP hw hK
  obtain⟨he,hlt⟩:=hg
  obtain⟨_,vs,rel,da⟩:=I.dictAt he hd
  have hl:=rel.length
  obtain⟨ok,ov,st⟩:=st
  rw[hl] at st
  obtain⟨f0,f1,f2,f3,f4,f5⟩:=hf it (.head _)
  exact wpAny_pyNext_items_end (I.ok.hd hc) st da (List.getElem?_eq_none (by omega)) λh' eb=>⟨rfl,I.turned (t':=s.toks) (λb o hb e=>eb b o hb e) f0 f1 f3 f4 f5⟩
 self:=λ_ _ _ _ _ st h=>VY st.choose_spec.choose_spec h
noncomputable def Iy (tl:TE):TI:=λσ H R=>tl σ H λx H1=>∃ a o kvs,x= .ref a/\H1 a=some (.frz o (.dK kvs))/\R (Iti a o kvs) H1
theorem Hy {elts:List Expr}{k:Nat}{pos0:Pos}{l:Expr}{tl:TE}{apos cpos:Pos}(hl:PE X l tl)
  (hbase:attributeBase l "items" X.env (eval l X.env)=eval l X.env:=by rfl)(hline:(apos.endLine==cpos.line)=true:=by rfl):PI X (.Tuple elts k pos0) (.Call (.Attribute l "items" apos) [] [] cpos) (Iy tl):=by
 intro pins s σ H R I h
 refine wpAny_Call_method0_late hbase hline (thn (hl pins s σ H _ I h) λv s1 r9=>?_)
 obtain⟨x,H1,I1,r1,q1⟩:=r9
 obtain⟨a,o,kvs,e,he,q⟩:=q1
 subst e
 cases r1
 obtain⟨h1,_,hs,vs,rel,o',es,ep,g1,g2,g3,g4⟩:=(show Y3 X.prog X.w H1 s1.heap a (.frz o (.dK kvs)) from I1.hok a _ he)
 rw[h1] at g1
 cases g1
 have hm:s1.heap.DictAt (Yn X.prog X.w) a vs ep:=⟨o,es,h1,g2,g3,g4⟩
 refine⟨"dict","dict.items",F.plainAttrs_dict,F.slot_dict_items,F.type_dict_items,hm.dictOf.typeIs,hm.dictOf.mapOf.noDict,?_⟩
 refine method_meetsIn F.slot_dict_items F.entry_dict_items rfl (PySem.evalArgs_none ⟨rfl,hm.dictOf.typeIs,F.args_dict_items_1 _,_,meets_dict_items (Yn X.prog X.w) a hs,⟨vs,hm.dictOf⟩,?_⟩)
 refine wpAny_pyIter_items (knd:=Yn X.prog X.w) (d:=a) (kvs:=vs) (ep:=ep) ⟨_,Heap.get?_push_size _ rfl,rfl,rfl⟩ (hm.push _) ?_
 rw[←rel.length]
 refine⟨_,[_],_,_,H1,rfl,I1.kept (t':=s1.toks) λb o e=>Heap.get?_push_of_some _ (Heap.get?_push_of_some _ e),Dy a _ o kvs g3,⟨_,_,Heap.get?_push_size _ rfl⟩,λb hb=>?_,q⟩
 have e:=List.mem_singleton.mp hb
 subst e
 have hge:s1.heap.objs.size<=(s1.heap.push {cls:=.type "dict_items",data:=.fields #[.ref a]}).objs.size:=by rw[Heap.size_push];exact Nat.le_succ _
 exact I1.fpOk hge (I1.hok.fresh hge)
end
section
variable {X:Cx}
noncomputable def ipD:TIp:=λx y H Q=>∃ i j,x= .int i/\y= .int j/\O4 i j/\Q (.int (i/j)) H
theorem LY:PIp X .FloorDiv ipD:=by
 intro pins s σ H x y v u Q I r1 r2 h
 obtain⟨i,j,e1,e2,hc,q⟩:=h
 subst e1;subst e2
 obtain⟨t,rfl⟩:=r1
 obtain⟨t',rfl⟩:=r2
 have h1:(0:Int)<j:=hc.1
 have h2:j<1073741824:=hc.2
 exact ifloordiv_int (by omega) (by rw[Int.fdiv_eq_ediv_of_nonneg i (by omega)];exact⟨.int _,H,I.tok _,⟨_,rfl⟩,q⟩) (.inl (PyProof.noPylong_small (by omega)))
end
section
variable {K:PySem.W.Frag}{Er:Exc->Hp->Prop}{S:SC}{OO OO' OO1 OO2 OO3:List (List XH)}{σ:St}{α β γ ρ ι δ ε ζ:Type}
variable {Fd:Ends->β->Hp->Prop}[fd:FdOk Fd]{u:TS}
noncomputable def NX (a b:Int):Rs Int:=chk (0<b/\b<1073741824) (.ok (a/b))
theorem LK {te:TE}{m:Rs Int}{f:Int->Rs β}{v:V}{a:Int}(i:Nat)(hσ:σ[i]?=some (some v))(h:∀x,S.p x->Xa K x v a)(he:EvB K Er S OO σ te Xa m)
  (hr:∀b v,Sv Er (S.add K Xa v b) OO (σ.set i (some v)) u Fd (f b)):Sv Er S OO σ (Vi (NZ i te ipD) u) Fd (m.bind λb=>(NX a b).bind f):=λH D w s P=>
 ⟨v,hσ,he.st w s P λb y H1 s1 w1 q1 r1 P1=>by
  cases e:NX a b with
  |bad=>rw[e] at P1;exact P1.elim
  |err x=>exact absurd e QB
  |ok c=>
   rw[e] at P1
   obtain⟨h1,h2⟩:=ZD e
   cases h2
   exact⟨a,b,h _ s,r1,h1,hr _ _ H1 D w1 ⟨q1,rfl⟩ P1⟩⟩
instance {o:OE α}[m:FlatT o]:FlatT (oL o):=⟨λs r9=>by obtain⟨p,xs,Cs,e,q,c⟩:=r9;exact⟨p,xs,Cs,e,q.imp λ_ _ _ z=>m.flat s z,c⟩⟩
theorem Fr {te:TE}{r:Enc α}[z:MonoE r]{m:Rs (List (Int×α))}(he:EvS K Er S OO σ te (rDf r) m):Walk K Er S OO σ (Iy te) (rP2 Xa r) m:=⟨fun {H R} w s P=>by
 refine he H _ w s ?_
 cases em:m with
 |bad=>rw[em] at P;exact P
 |err x=>rw[em] at P;exact P
 |ok d=>
  rw[em] at P
  intro v H' s' ⟨p,o,kvs,e,hp,pr⟩
  refine⟨p,o,kvs,e,Xx _ _ hp,P _ H' s' ?_ ?_⟩
  ·intro i a ha OO2 H2 w2 m2
   obtain⟨kv,hkv,rk⟩:=Paired.getR pr ha
   have hl:i<kvs.length:=(List.getElem?_eq_some_iff.mp hkv).1
   refine⟨⟨Xx _ _ (m2 _ _ hp),hl⟩,λy H3 h3=>?_⟩
   obtain⟨b,kv',rfl,hb,rfl,hy⟩:=h3
   rw[hkv] at hy
   cases hy
   refine⟨XL hb _,⟨b,_,_,rfl,ZZ w2 hb,?_,z.mono (m2.trans (Xk (XL hb _))) rk.2⟩⟩
   show kV kv.1= .int a.1
   rw[rk.1]
   rfl
  ·intro OO2 H2 w2 m2
   exact⟨Xx _ _ (m2 _ _ hp),by rw[Paired.len pr];exact Nat.le_refl _⟩⟩
theorem Ob {o:OE α}[z:MonoO o]{xs:List V}{as:List α}{Cs:List (List XH)}{H H0:Hp}{Q:VK}{OO0:List (List XH)}(w:W (Cs.flatten::OO) H)(m0:Xz (hid H0 OO0) (hid H (Cs.flatten::OO)))(s0:Xz H0 H)(pr:P3 (o K (hid H (Cs.flatten::OO))) xs as Cs)(P:FO K OO0 OO (oL o) Q as H0):∀p,H p=none->Q (.ref p) (upd H p (.lst xs)):=λp hp=>by
 have hn:=Jj (OO:=Cs.flatten::OO) hp (o:=.lst xs)
 have wn:=w.new hp (o:=.lst xs) rfl
 have pe:(((p,HO.lst xs)::Cs.flatten)::OO).flatten.Perm ([(p,HO.lst xs)]::Cs.flatten::OO).flatten:=by simp
 refine P (.ref p) ((p, .lst xs)::Cs.flatten) _ (s0.trans (XL hp _)) (wn.of pe) ?_ ?_
 ·rw[X8 pe];exact m0.trans hn
 ·rw[X8 pe]
  exact⟨p,xs,Cs,rfl,pr.imp λ_ _ _ h=>z.mono hn h,rfl⟩
theorem LO {t:TA}{o:OE α}[z:MonoO o]{m:Rs (List α)}(h:MH K Er S OO OO' σ t o m):Ev K Er S OO OO' σ (Nt t) (oL o) (m.bind λas=>chk (as.length<=sizeLine) (.ok as)):=λH Q w s P=>by
 refine h H _ w s ?_
 cases e:m with
 |bad=>rw[e] at P;exact P
 |err x=>rw[e] at P;exact P
 |ok as=>
  rw[e] at P
  obtain⟨hsz,P⟩:=PZ.chk (show PZ Er _ H (chk (as.length<=sizeLine) (.ok as)) from P)
  intro vs Cs H1 s1 w1 m1 p
  exact⟨by rw[p.len.1];exact hsz,Ob w1 m1 s1 p P⟩
noncomputable def oT3 (o:OE α)(q:OE β)(t:OE γ):OE (α×β×γ):=λK h v a C=>∃ p x y z C1 C2 C3,v= .ref p/\h p=some (.tup [x,y,z])/\o K h x a.1 C1/\q K h y a.2.1 C2/\t K h z a.2.2 C3/\C=C1++(C2++C3)
instance {o:OE α}{q:OE β}{t:OE γ}[m:MonoO o][n:MonoO q][k:MonoO t]:MonoO (oT3 o q t):=⟨λs r9=>by obtain⟨p,x,y,z,C1,C2,C3,e,h,h1,h2,h3,c⟩:=r9;exact⟨p,x,y,z,C1,C2,C3,e,s _ _ h,m.mono s h1,n.mono s h2,k.mono s h3,c⟩⟩
instance {o:OE α}{q:OE β}{t:OE γ}[m:FlatO o][n:FlatO q][k:FlatO t]:FlatO (oT3 o q t):=⟨λs r9=>by obtain⟨p,x,y,z,C1,C2,C3,e,h,h1,h2,h3,c⟩:=r9;exact⟨p,x,y,z,C1,C2,C3,e,s _ _ h rfl,m.flat s h1,n.flat s h2,k.flat s h3,c⟩⟩
instance {o:OE α}{q:OE β}{t:OE γ}{ro:Enc α}{rq:Enc β}{rt:Enc γ}[m:FrzC o ro][n:FrzC q rq][k:FrzC t rt]:FrzC (oT3 o q t) (rP3 ro rq rt):=⟨λ⟨p,x,y,z,C1,C2,C3,e,h,h1,h2,h3,c⟩ s hc=>by
 subst c
 exact⟨p,x,y,z,e,s _ _ h,m.frz h1 s λc hm=>hc c (by simp[hm]),n.frz h2 s λc hm=>hc c (by simp[hm]),k.frz h3 s λc hm=>hc c (by simp[hm])⟩⟩
theorem E5 {ta tb tc:TE}{o:OE α}{q:OE β}{t:OE γ}[zo:MonoO o][zq:MonoO q][zt:MonoO t]{ma:Rs α}{mb:Rs β}{mc:Rs γ}(ha:Ev K Er S OO OO1 σ ta o ma)(hb:∀C,Ev K Er S (C::OO1) (C::OO2) σ tb q mb)(hc:∀C C',Ev K Er S (C'::C::OO2) (C'::C::OO3) σ tc t mc):
  Ev K Er S OO OO3 σ (Ms (X2 ta (X2 tb (X2 tc QV)))) (oT3 o q t) (ma.bind λa=>mb.bind λb=>mc.bind λc=>.ok (a,b,c)):=λH Q w s P=>by
 refine ha H _ w s ?_
 cases em:ma with
 |bad=>rw[em] at P;exact P
 |err x=>rw[em] at P;exact P
 |ok a=>
  rw[em] at P
  intro v C H1 s1 w1 m1 ho
  refine hb C H1 _ w1 (S.mono _ _ m1 s) ?_
  have P1:PZ Er (FO K OO OO3 (oT3 o q t) Q) H (mb.bind λb=>mc.bind λc=>.ok (a,b,c)):=P
  cases en:mb with
  |bad=>rw[en] at P1;exact P1
  |err x=>rw[en] at P1;exact λH2 s2=>P1 H2 (s1.trans s2)
  |ok b=>
   rw[en] at P1
   have P2:PZ Er (FO K OO OO3 (oT3 o q t) Q) H (mc.bind λc=>.ok (a,b,c)):=P1
   intro v2 C2 H2 s2 w2 m2 ho2
   refine hc C C2 H2 _ w2 (S.mono _ _ (m1.trans m2) s) ?_
   cases ek:mc with
   |bad=>rw[ek] at P2;exact P2
   |err x=>rw[ek] at P2;exact λH3 s3=>P2 H3 (s1.trans (s2.trans s3))
   |ok c=>
    rw[ek] at P2
    have P3:FO K OO OO3 (oT3 o q t) Q (a,b,c) H:=P2
    intro v3 C3 H3 s3 w3 m3 ho3
    refine⟨by show 3<=sizeLine;decide,λp hp=>?_⟩
    have pe:((C++(C2++C3))::OO3).flatten.Perm (C3::C2::C::OO3).flatten:=by
     have q:(C++(C2++C3)).Perm (C3++(C2++C)):=by
      rw[←List.append_assoc C3]
      exact List.perm_append_comm.trans ((List.perm_append_comm (l₁:=C2) (l₂:=C3)).append_right _)
     have:=q.append_right OO3.flatten
     simpa[List.append_assoc] using this
    have s4:Xz H3 (upd H3 p (.tup [v,v2,v3])):=XL hp _
    have w4:=(w3.keep s4).of pe
    have m4:Xz (hid H3 (C3::C2::C::OO3)) (hid (upd H3 p (.tup [v,v2,v3])) ((C++(C2++C3))::OO3)):=by rw[X8 pe];exact Xk s4
    refine P3 (.ref p) (C++(C2++C3)) _ (s1.trans (s2.trans (s3.trans s4))) w4 (m1.trans (m2.trans (m3.trans m4))) ⟨p,v,v2,v3,C,C2,C3,rfl,?_,zo.mono (m2.trans (m3.trans m4)) ho,zq.mono (m3.trans m4) ho2,zt.mono m4 ho3,rfl⟩
    rw[X8 pe]
    exact ZZ w3 hp
end
section
variable {K:PySem.W.Frag}{Er:Exc->Hp->Prop}{S:SC}{OO OO' OO1 OO2:List (List XH)}{σ:St}{α β γ ρ ι δ ε ζ:Type}
variable {Fd:Ends->β->Hp->Prop}[fd:FdOk Fd]{u:TS}
end
section
variable {K:PySem.W.Frag}{Er:Exc->Hp->Prop}{S:SC}{OO OO' OO1 OO2:List (List XH)}{σ:St}{α β γ ρ ι δ ε ζ:Type}
variable {Fd:Ends->β->Hp->Prop}[fd:FdOk Fd]{u:TS}
end
section
variable {K:PySem.W.Frag}{Er:Exc->Hp->Prop}{S:SC}{OO OO' OO1 OO2:List (List XH)}{σ:St}{α β γ ρ ι δ ε ζ α1 α3 α4:Type}
variable {Fd:Ends->β->Hp->Prop}[fd:FdOk Fd]{u:TS}
end
end L2
namespace L2
open PySem
noncomputable def Inc (xs:Array Nat):Prop:=xs.toList.Pairwise (· < ·)
theorem Inc.lt {xs:Array Nat}(h:Inc xs){i j v u:Nat}(hij:i<j)(hi:xs[i]?=some v)(hj:xs[j]?=some u):v<u:=by
 rw[←Array.getElem?_toList] at hi hj
 obtain⟨a,rfl⟩:=List.getElem?_eq_some_iff.mp hi
 obtain⟨b,rfl⟩:=List.getElem?_eq_some_iff.mp hj
 exact List.pairwise_iff_getElem.mp h i j a b hij
theorem Inc.le {xs:Array Nat}(h:Inc xs){i j v u:Nat}(hij:i<=j)(hi:xs[i]?=some v)(hj:xs[j]?=some u):v<=u:=by
 rcases Nat.lt_or_eq_of_le hij with z |z
 ·exact Nat.le_of_lt (h.lt z hi hj)
 ·subst z;rw[hi] at hj;cases hj;exact Nat.le_refl _
structure TOk (t:SetTable)(led:Bool):Prop where
 inc:Inc t.place
 dum:t.dummies= #[]
 led:t.led=led
theorem TOk.fresh (f m:Nat)(led:Bool):TOk (.fresh f m led) led:=⟨List.Pairwise.nil,rfl,rfl⟩
end L2
namespace L2
open PySem PySem.Spec PyProof.Rows
theorem Hh {vs:List Value}{ms:List Int}(h:IntsAre vs ms)(k:Int):(∃v∈vs,Value.isInt k v=true)↔k∈ms:=by
 induction h with
 |nil=>simp
 |cons n t _ ih=>
  rw[List.mem_cons, ←ih]
  constructor
  ·rintro⟨v,hv,e⟩
   rcases List.mem_cons.mp hv with z |z
   ·subst z;obtain⟨t',e'⟩:=Value.isInt_shape e;cases e';exact .inl rfl
   ·exact .inr ⟨v,z,e⟩
  ·rintro(z | ⟨v,hv,e⟩)
   ·subst z;exact⟨_, .head _,beq_self_eq_true _⟩
   ·exact⟨v, .tail _ hv,e⟩
theorem CH {vs vs':List Value}(p:vs'.Perm vs):∀{ms:List Int},IntsAre vs ms->∃ms',IntsAre vs' ms'/\ms'.Perm ms:=by
 induction p with
 |nil=>intro ms h;exact⟨ms,h, .refl _⟩
 |cons x _ ih=>
  intro ms h
  cases h with
  |cons n t h=>obtain⟨m,a,b⟩:=ih h;exact⟨n::m, .cons n t a,b.cons _⟩
 |swap x y l=>
  intro ms h
  cases h with
  |cons n t h=>cases h with
   |cons m u h=>exact⟨_, .cons m u (.cons n t h), .swap ..⟩
 |trans _ _ ih1 ih2=>
  intro ms h
  obtain⟨m,a,b⟩:=ih2 h
  obtain⟨m',a',b'⟩:=ih1 a
  exact⟨m',a',b'.trans b⟩
noncomputable def dd (l:List Int):List Int:=l.foldl step_dedup []
structure SCore (prog:Program)(w:World)(es:Array (Int×Value))(t:SetTable)(ns:List Int):Prop where
 el:ElemsOf (intKind prog w) es.toList
 pm:∃ms,IntsAre (es.toList.map (·.2)) ms/\ms.Perm ns
 sz:es.size<scanBound
 fit:t.fits es.size=true
 tok:TOk t (!w.params.followText "set-order")
noncomputable def Nq (prog:Program)(w:World)(h:Heap)(a:Addr)(ns:List Int):Prop:=
 ∃o es ep t,h.get? a=some o/\o.ExactSet/\o.data= .set es ep t/\SCore prog w es t ns
section
variable {prog:Program}{w:World}{A:Around}{E:Value->Shared->Prop}{s:Shared}{a:Addr}{ns:List Int}
theorem SCore.len {es:Array (Int×Value)}{t:SetTable}(c:SCore prog w es t ns):es.size=ns.length:=by
 obtain⟨ms,a,b⟩:=c.pm
 rw[←b.length_eq, ←IntsAre.length a,List.length_map,Array.length_toList]
theorem SCore.mem {es:Array (Int×Value)}{t:SetTable}(c:SCore prog w es t ns)(k:Int):(∃e∈es.toList,Value.isInt k e.2=true)↔k∈ns:=by
 obtain⟨ms,a,b⟩:=c.pm
 rw[←b.mem_iff, ←Hh a k]
 constructor
 ·rintro⟨e,h,z⟩;exact⟨e.2,List.mem_map_of_mem h,z⟩
 ·rintro⟨v,h,z⟩
  obtain⟨e,h1,rfl⟩:=List.mem_map.mp h
  exact⟨e,h1,z⟩
theorem SCore.perm {es es':Array (Int×Value)}{t t':SetTable}(c:SCore prog w es t ns)(p:es'.toList.Perm es.toList)(f:t'.fits es'.size=true)(k:TOk t' (!w.params.followText "set-order")):SCore prog w es' t' ns:=by
 obtain⟨ms,a,b⟩:=c.pm
 obtain⟨m,a',b'⟩:=CH (p.map (·.2)) a
 have e:es'.size=es.size:=by rw[←Array.length_toList,p.length_eq,Array.length_toList]
 exact⟨c.el.perm p,⟨m,a',b'.trans b⟩,by rw[e];exact c.sz,f,k⟩
theorem Nq.put {h:Heap}{o:Obj}{es es':Array (Int×Value)}{ep:Nat}{t t':SetTable}(ho:h.get? a=some o)(hx:o.ExactSet)(hd:o.data= .set es ep t):
  (h.update a (Obj.putSet es' t')).get? a=some {o with data:=.set es' (ep+1) t'}/\(SCore prog w es' t' ns->Nq prog w (h.update a (Obj.putSet es' t')) a ns):=by
 have g:=Heap.get?_update_self (Obj.putSet es' t') ho (by rw[putSet_of es' t' hd];rfl)
 rw[putSet_of es' t' hd] at g
 exact⟨g,λc=>⟨_,_,_,_,g,hx,rfl,c⟩⟩
end
section
variable {prog:Program}{w:World}{A:Around}{E:Value->Shared->Prop}{s:Shared}
theorem Nq.at {h h':Heap}{a:Addr}{ns:List Int}(x:Nq prog w h a ns)(k:∀o,h.get? a=some o->h'.get? a=some o):Nq prog w h' a ns:=
 let ⟨o,es,ep,t,ho,r⟩:=x;⟨o,es,ep,t,k o ho,r⟩
end
section
variable {M:Model}{A:Around}{E:Value->Shared->Prop}{s:Shared}
end
section
variable {prog:Program}{w:World}{A:Around}{E:Value->Shared->Prop}{s:Shared}{a:Addr}{o:Obj}{es:Array (Int×Value)}{ep:Nat}{t:SetTable}
end
section
variable {prog:Program}{w:World}{A:Around}{E:Value->Shared->Prop}{s:Shared}{a I tp:Addr}{o:Obj}{es:Array (Int×Value)}{ep:Nat}{t:SetTable}{L:List (Int×Value)}
inductive SMode (w:World)(a:Addr)(es:Array (Int×Value))(ep:Nat)(t:SetTable)(tp:Addr)(L:List (Int×Value))(h:Heap)(i:Nat):Value->Prop
 |text (sl:Nat) (hT:w.params.followText "set-order" =true) (hL:L=(pickOrder (w.params.setOrder a ep) es).toList):SMode w a es ep t tp L h i (.int sl 0)
 |plain (sl:Nat) (hT:w.params.followText "set-order" =false) (hp:(!t.plain&&decide (es.size > 1))=false) (hL:L=es.toList) (hb:SetTable.below t.place sl=i):SMode w a es ep t tp L h i (.int sl 0)
 |drawn (ps:List Nat) (hg:h.get? tp=some {cls:=.type "tuple",data:=.seq (ps.map λi=>Value.int (i:Nat) 0).toArray}) (hn:ps.length=L.length) (hL:∀(i:Nat) pl,ps[i]?=some pl->L[i]?=es[pl]?):SMode w a es ep t tp L h i (.ref tp)
structure SIt (w:World)(I a:Addr)(es:Array (Int×Value))(ep:Nat)(t:SetTable)(tp:Addr)(L:List (Int×Value))(o:Obj)(i:Nat)(h:Heap):Prop where
 it:∃ob first,h.get? I=some ob/\ob.cls= .type "set_iterator" /\ob.data= .fields #[first, .int i 0, .ref a, .int es.size 0, .int ep 0]/\SMode w a es ep t tp L h i first
 st:h.get? a=some o
theorem SMode.at {h h':Heap}{i:Nat}{v:Value}(m:SMode w a es ep t tp L h i v)(k:∀o,h.get? tp=some o->h'.get? tp=some o):SMode w a es ep t tp L h' i v:=by
 cases m with
 |text sl hT hL=>exact .text sl hT hL
 |plain sl hT hp hL hb=>exact .plain sl hT hp hL hb
 |drawn ps hg hn hL=>exact .drawn ps (k _ hg) hn hL
end
section
variable {prog:Program}{w:World}{A:Around}{E:Value->Shared->Prop}{s:Shared}{a I tp:Addr}{o:Obj}{es:Array (Int×Value)}{ep:Nat}{t:SetTable}{L:List (Int×Value)}{ns:List Int}
theorem SIt.frame {i:Nat}{h h':Heap}(x:SIt w I a es ep t tp L o i h)(k:∀b∈[I,a,tp],∀o,h.get? b=some o->h'.get? b=some o):SIt w I a es ep t tp L o i h':=by
 obtain⟨⟨ob,f,h1,h2,h3,m⟩,h4⟩:=x
 exact⟨⟨ob,f,k I (by simp) _ h1,h2,h3,m.at λo e=>k tp (by simp) o e⟩,k a (by simp) _ h4⟩
end
section
variable {X:Cx}
end
section
variable {K:PySem.W.Frag}{Er:Exc->Hp->Prop}{S:SC}{OO:List (List XH)}{σ:St}
variable {u:TS}{α γ ρ ι:Type}
variable {β:Type}{Fd:Ends->β->Hp->Prop}[fd:FdOk Fd]
end
section
variable {α β γ:Type}
end
section
variable {K:PySem.W.Frag}{Er:Exc->Hp->Prop}{S:SC}{OO:List (List XH)}{σ:St}{α1 α2 α3 α4 ρ:Type}{mg:Str->Option Value}{E:XK}
end
section
variable {X:Cx}{tg:Expr}
end
section
variable {K:PySem.W.Frag}{Er:Exc->Hp->Prop}{S:SC}{OO OO':List (List XH)}{σ:St}{α β γ:Type}
theorem P3.reverse {δ:Type}{F:α->γ->δ->Prop}:∀{l m n},P3 F l m n->P3 F l.reverse m.reverse n.reverse:=λp=>by
 induction p with
 |nil=>exact .nil
 |cons r _ ih=>rw[List.reverse_cons,List.reverse_cons,List.reverse_cons];exact ih.snoc r
variable {u:TS}{Fd:Ends->β->Hp->Prop}[fd:FdOk Fd]
end
section
variable {K:PySem.W.Frag}{Er:Exc->Hp->Prop}{S:SC}{OO:List (List XH)}{σ:St}{α β γ ι:Type}{u:TS}{Fd:Ends->β->Hp->Prop}[fd:FdOk Fd]
end
section
variable {K:PySem.W.Frag}{Er:Exc->Hp->Prop}{S:SC}{OO:List (List XH)}{σ:St}{α β:Type}
end
noncomputable def O3 (A:Around)(s:Shared)(v u:Value)(b:Bool):Prop:=
 ∀(prog:Program) (w:World) (E:Value->Shared->Prop) (Q:Value->Shared->Prop),Q (.bool b) s->wpAny (model prog w) A (richCompare .Lt v u) Q E s
structure LtOk {α:Type}(r:Enc α)(lt:α->α->Bool)(d:Nat):Prop where
 at':∀{X:Cx}{pins:List (Addr×Obj)}{σ:St}{H:Hp}{s:Shared}{x y:V}{v u:Value}{a b:α}{A:Around},Inv X pins σ H s->Yo x v->Yo y u->r X.K H x a->r X.K H y b->A.units+d<cLine->O3 A s v u (lt a b)
noncomputable def ltI (a b:Int):Bool:=decide (a<b)
theorem lt_int:LtOk Xa ltI 0:=⟨fun {X pins σ H s x y v u a b A} I rx ry h1 h2 _ prog w E Q q=>by
 have e1:x=V.int a:=h1
 have e2:y=V.int b:=h2
 subst e1 e2
 obtain⟨t,rfl⟩:=rx
 obtain⟨t',rfl⟩:=ry
 exact CmpOf.ints_lt (P:=λj v=>∃ t,v= .int (if j=0 then a else b) t) (λj=>if j=0 then a else b) (λ_ _ h=>h) 0 1 _ _ _ _ _ ⟨t,rfl⟩ ⟨t',rfl⟩ q⟩
section
variable {α:Type}[DecidableEq α]{r:Enc α}{lt:α->α->Bool}{d:Nat}
theorem LtOk.imp {q:Enc α}(L:LtOk r lt d)(h:∀{K:PySem.W.Frag}{H:Hp}{v:V}{a:α},q K H v a->r K H v a):LtOk q lt d:=⟨λI rx ry h1 h2 hu=>L.at' I rx ry (h h1) (h h2) hu⟩
end
section
variable {α:Type}
noncomputable def kp (kf:Value->α)(d:α)(xs:Array Keyed)(i:Nat):α:=(xs[i]?.map λp=>kf p.1).getD d
structure Ord (lt:α->α->Bool):Prop where
 irr:∀a,lt a a=false
 tr:∀{a b c},lt a b=true->lt b c=true->lt a c=true
structure Asks (prog:Program)(w:World)(A:Around)(E:Value->Shared->Prop)(s:Shared)(lt:α->α->Bool)(kf:Value->α)(d:α)(a0:Array Keyed):Prop extends Ord lt where
 ask:∀{st:SortSt}{i j:Nat}{Q:Option Bool->SortSt->Prop},SBase a0 st->i<a0.size->j<a0.size->Q (some (lt (kp kf d (arrOf st) i) (kp kf d (arrOf st) j))) st->wpS (model prog w) A E s (ltAt' i j) Q st
 two:∀{st:SortSt}{i j:Nat},SBase a0 st->i<a0.size->j<a0.size->i≠j->lt (kp kf d (arrOf st) i) (kp kf d (arrOf st) j)=true∨lt (kp kf d (arrOf st) j) (kp kf d (arrOf st) i)=true
variable {prog:Program}{w:World}{A:Around}{E:Value->Shared->Prop}{s:Shared}{lt:α->α->Bool}{kf:Value->α}{d:α}{a0:Array Keyed}
noncomputable def Ris (lt:α->α->Bool)(k:Nat->α)(n:Nat):Prop:=∀ i j,i<j->j<n->lt (k i) (k j)=true
noncomputable def Fal (lt:α->α->Bool)(k:Nat->α)(n:Nat):Prop:=∀ i j,i<j->j<n->lt (k j) (k i)=true
theorem Ris.more (O:Ord lt){k:Nat->α}{n:Nat}(h:Ris lt k n)(q:0<n->lt (k (n-1)) (k n)=true):Ris lt k (n+1):=λi j hij hj=>by
 rcases Nat.lt_or_ge j n with z |z
 ·exact h i j hij z
 ·have e:j=n:=by omega
  subst e
  rcases Nat.lt_or_ge i (j-1) with y |y
  ·exact O.tr (h i (j-1) y (by omega)) (q (by omega))
  ·rw[show i=j-1 by omega];exact q (by omega)
theorem Fal.more (O:Ord lt){k:Nat->α}{n:Nat}(h:Fal lt k n)(q:0<n->lt (k n) (k (n-1))=true):Fal lt k (n+1):=λi j hij hj=>by
 rcases Nat.lt_or_ge j n with z |z
 ·exact h i j hij z
 ·have e:j=n:=by omega
  subst e
  rcases Nat.lt_or_ge i (j-1) with y |y
  ·exact O.tr (q (by omega)) (h i (j-1) y (by omega))
  ·rw[show i=j-1 by omega];exact q (by omega)
theorem Asks.other (L:Asks prog w A E s lt kf d a0){st:SortSt}{i j:Nat}(B:SBase a0 st)(hi:i<a0.size)(hj:j<a0.size)(n:i≠j)(h:lt (kp kf d (arrOf st) i) (kp kf d (arrOf st) j)=false):lt (kp kf d (arrOf st) j) (kp kf d (arrOf st) i)=true:=(L.two B hi hj n).resolve_left (by rw[h];decide)
end
section
variable {α β γ:Type}
theorem EH {f:α->β}{l' k:List β}(h:l'.Perm k):∀{l:List α},k=l.map f->∃m:List α,m.Perm l/\m.map f=l':=by
 induction h with
 |nil=>intro l e;cases l with
  |nil=>exact⟨[], .nil,rfl⟩
  |cons a l=>cases e
 |cons x _ ih=>intro l e;cases l with
  |nil=>cases e
  |cons a l=>
   injection e with e1 e2
   obtain⟨m,hm,em⟩:=ih e2
   exact⟨a::m,hm.cons a,by rw[List.map_cons,em,e1]⟩
 |swap x y t=>intro l e;cases l with
  |nil=>cases e
  |cons a l=>cases l with
   |nil=>cases e
   |cons b l=>
    injection e with e1 e2
    injection e2 with e2 e3
    exact⟨b::a::l, .swap ..,by rw[List.map_cons,List.map_cons,e1,e2,e3]⟩
 |trans _ _ ih1 ih2=>
  intro l e
  obtain⟨m2,h2,e2⟩:=ih2 e
  obtain⟨m1,h1,e1⟩:=ih1 e2.symm
  exact⟨m1,h1.trans h2,e1⟩
section
variable [DecidableEq α]{lt:α->α->Bool}
end
end
section
variable {prog:Program}{w:World}{A:Around}{E:Value->Shared->Prop}{s:Shared}{α:Type}
end
section
variable {X:Cx}{β:Type}[DecidableEq β]{r:Enc β}{lt:β->β->Bool}{d:Nat}
end
section
variable {X:Cx}{α:Type}
end
section
variable {K:PySem.W.Frag}{Er:Exc->Hp->Prop}{S:SC}{OO OO':List (List XH)}{σ:St}{α β γ δ:Type}
theorem P3.tri {F:α->β->γ->Prop}:∀{l m n},P3 F l m n->∃T:List (α×β×γ),T.map (·.1)=l/\T.map (·.2.1)=m/\T.map (·.2.2)=n/\∀t∈T,F t.1 t.2.1 t.2.2:=λp=>by
 induction p with
 |nil=>exact⟨[],rfl,rfl,rfl,λt h=>nomatch h⟩
 |cons r _ ih=>
  obtain⟨T,e1,e2,e3,h⟩:=ih
  exact⟨(_,_,_)::T,by rw[List.map_cons,e1],by rw[List.map_cons,e2],by rw[List.map_cons,e3],λt ht=>(List.mem_cons.mp ht).elim (λz=>z▸r) (h t)⟩
theorem P3.oft {F:α->β->γ->Prop}:∀{T:List (α×β×γ)},(∀t∈T,F t.1 t.2.1 t.2.2)->P3 F (T.map (·.1)) (T.map (·.2.1)) (T.map (·.2.2)):=fun {T}=>by
 induction T with
 |nil=>intro _;exact .nil
 |cons t T ih=>intro h;exact .cons (h t List.mem_cons_self) (ih λu hu=>h u (List.mem_cons_of_mem _ hu))
theorem Le {a a':List α}{b b':List β}(h:a.zip b=a'.zip b')(h1:a.length=b.length)(h2:a'.length=b'.length):a=a'/\b=b':=by
 have e1:=congrArg (List.map Prod.fst) h
 have e2:=congrArg (List.map Prod.snd) h
 rw[List.map_fst_zip (by omega),List.map_fst_zip (by omega)] at e1
 rw[List.map_snd_zip (by omega),List.map_snd_zip (by omega)] at e2
 exact⟨e1,e2⟩
theorem P3.perm {F:α->β->γ->Prop}{l zs:List α}{m bs:List β}{n:List γ}(p:P3 F l m n)(h:(zs.zip bs).Perm (l.zip m))(hl:zs.length=bs.length):∃n',P3 F zs bs n'/\n'.Perm n:=by
 obtain⟨T,e1,e2,e3,hT⟩:=p.tri
 have ez:T.map (λt=>(t.1,t.2.1))=l.zip m:=by rw[←e1, ←e2,List.zip_map']
 obtain⟨T',hp,e⟩:=EH h ez.symm
 have:(T'.map (·.1)).zip (T'.map (·.2.1))=zs.zip bs:=by rw[List.zip_map'];exact e
 obtain⟨f1,f2⟩:=Le this (by simp) hl
 refine⟨T'.map (·.2.2),?_,by rw[←e3];exact hp.map _⟩
 rw[←f1, ←f2]
 exact P3.oft λt ht=>hT t (hp.mem_iff.mp ht)
end
section
variable {K:PySem.W.Frag}{Er:Exc->Hp->Prop}{S:SC}{OO OO':List (List XH)}{σ:St}{α β:Type}{u:TS}{Fd:Ends->β->Hp->Prop}[fd:FdOk Fd]
end
section
variable {K:PySem.W.Frag}{Er:Exc->Hp->Prop}{S:SC}{OO OO':List (List XH)}{σ:St}{α1 α2 β ρ:Type}{u:TS}
theorem W.one {H:Hp}(w:W OO H):W [OO.flatten] H:=w.of (by simp)
end
section
variable {K:PySem.W.Frag}{Er:Exc->Hp->Prop}{S:SC}{OO OO':List (List XH)}{σ:St}{α α2 β γ ρ:Type}
variable {Fd:Ends->β->Hp->Prop}[fd:FdOk Fd]{u:TS}
end
section
variable {prog:Program}{w:World}{A:Around}{E:Value->Shared->Prop}{s:Shared}
end
section
variable {X:Cx}
end
section
variable {K:PySem.W.Frag}{Er:Exc->Hp->Prop}{S:SC}{OO OO':List (List XH)}{σ:St}{α β γ:Type}
end
section
variable {X:Cx}{α:Type}{r:Enc α}{lt:α->α->Bool}{d:Nat}
end
section
variable {K:PySem.W.Frag}{Er:Exc->Hp->Prop}{S:SC}{OO OO':List (List XH)}{σ:St}{α:Type}
end
section
variable {X:Cx}{pins:List (Addr×Obj)}{σ:St}{H:Hp}{s0:Shared}
noncomputable def LG (X:Cx)(g:Heap)(d:Addr)(xs:List (List Key×Addr×Value)):Prop:=∃ o es ep,g.get? d=some o/\o.ExactDict/\o.data= .dict es ep/\es.toList=xs.map (entryOfKey (tupleKind (Yn X.prog X.w)))/\(xs.map (·.1)).Nodup
theorem LG.h {g:Heap}{tk:Nat}{d:Addr}{acc:List (List Key×V)}{xs:List (List Key×Addr×Value)}(D:LG X g d xs)(I:Inv X pins σ H {s0 with heap:=g,toks:=tk})(r:KT H acc xs):g.DictOfH (tupleKind (Yn X.prog X.w)) d xs:=by
 obtain⟨o,es,ep,h1,h2,h3,h4,h5⟩:=D
 refine⟨o,es,ep,h1,h2,h3,h4,λx hx=>?_,h5⟩
 have all:∀{l:List (List Key×V)}{m:List (List Key×Addr×Value)},KT H l m->∀x∈m,(tupleKind (Yn X.prog X.w)).is g x.1 x.2.1:=by
  intro l m q
  induction q with
  |nil=>intro x hx;exact nomatch hx
  | @cons p q ps qs hq t ih=>
   intro x hx
   rcases List.mem_cons.mp hx with e |hx
   ·subst e
    exact Gp I.hok (by rw[←hq.1];exact hq.2.1)
   ·exact ih x hx
 exact all r x hx
theorem LG.of {g:Heap}{d:Addr}{xs:List (List Key×Addr×Value)}(D:g.DictOfH (tupleKind (Yn X.prog X.w)) d xs):LG X g d xs:=by
 obtain⟨o,es,ep,h1,h2,h3,h4,_,h5⟩:=D
 exact⟨o,es,ep,h1,h2,h3,h4,h5⟩
theorem LG.at {g g':Heap}{d:Addr}{xs:List (List Key×Addr×Value)}(D:LG X g d xs)(k:∀o,g.get? d=some o->g'.get? d=some o):LG X g' d xs:=by
 obtain⟨o,es,ep,h1,r⟩:=D
 exact⟨o,es,ep,k o h1,r⟩
end
section
variable {K:PySem.W.Frag}{Er:Exc->Hp->Prop}{S:SC}{OO OO':List (List XH)}{σ:St}{α β γ:Type}
end
section
variable {K:PySem.W.Frag}{Er:Exc->Hp->Prop}{S:SC}{OO:List (List XH)}{σ:St}{α1 α2 α3 α4 α5 ρ:Type}{mg:Str->Option Value}{E:XK}
end
section
variable {X:Cx}{o e:Expr}{es:List Expr}{to:TE}{t:TA}{name:Str}{apos cpos:Pos}{id:String}{r:V->List V->Hp->VK->Prop}
end
section
variable {K:PySem.W.Frag}{Er:Exc->Hp->Prop}{S:SC}{OO:List (List XH)}{σ:St}
end
section
variable {α β γ δ:Type}{K:PySem.W.Frag}{Er:Exc->Hp->Prop}{S:SC}{OO:List (List XH)}{σ:St}{Fd:Ends->β->Hp->Prop}[fd:FdOk Fd]{u:TS}
end
end L2
namespace HT
open PySem PySem.Spec PyProof PyProof.Rows
section
variable {prog:Program}{w:World}{A:Around}{E:Value->Shared->Prop}{s:Shared}
end
end HT
namespace L2
open PySem PySem.Spec PyProof.Rows
section
variable {X:Cx}{e:Expr}{te:TE}
end
section
variable {α β:Type}{K:PySem.W.Frag}{Er:Exc->Hp->Prop}{S:SC}{OO:List (List XH)}{σ:St}
end
section
variable {α β:Type}{K:PySem.W.Frag}{Er:Exc->Hp->Prop}{S:SC}{OO:List (List XH)}{σ:St}{Fd:Ends->β->Hp->Prop}[fd:FdOk Fd]{u:TS}
end
section
variable {K:PySem.W.Frag}{Er:Exc->Hp->Prop}{S:SC}{OO OO' OO2:List (List XH)}{σ:St}{α β γ ρ ι:Type}{mg:Str->Option Value}{E:XK}{u:TS}
end
section
variable {α:Type}
structure SBk (κ:SortKind)(a₀:Array Keyed)(st:SortSt):Prop where
 perm:(arrOf st).Perm a₀
 kind:kindOf st=κ
 failed:failedOf st=none
 pend:pendingOf st= #[]
theorem SBk.size {κ:SortKind}{a₀:Array Keyed}{st:SortSt}(h:SBk κ a₀ st):(arrOf st).size=a₀.size:=h.perm.size_eq
structure AskK (prog:Program)(w:World)(A:Around)(E:Value->Shared->Prop)(s:Shared)(lt:α->α->Bool)(kf:Value->α)(d:α)(a0:Array Keyed)(κ:SortKind):Prop extends Ord lt where
 ask:∀{st:SortSt}{i j:Nat}{Q:Option Bool->SortSt->Prop},SBk κ a0 st->i<a0.size->j<a0.size->Q (some (lt (kp kf d (arrOf st) i) (kp kf d (arrOf st) j))) st->wpS (model prog w) A E s (ltAt' i j) Q st
 two:∀{st:SortSt}{i j:Nat},SBk κ a0 st->i<a0.size->j<a0.size->i≠j->lt (kp kf d (arrOf st) i) (kp kf d (arrOf st) j)=true∨lt (kp kf d (arrOf st) j) (kp kf d (arrOf st) i)=true
variable {prog:Program}{w:World}{A:Around}{E:Value->Shared->Prop}{s:Shared}{lt:α->α->Bool}{kf:Value->α}{d:α}{a0:Array Keyed}{κ:SortKind}
theorem AskK.other (L:AskK prog w A E s lt kf d a0 κ){st:SortSt}{i j:Nat}(B:SBk κ a0 st)(hi:i<a0.size)(hj:j<a0.size)(n:i≠j)(h:lt (kp kf d (arrOf st) i) (kp kf d (arrOf st) j)=false):lt (kp kf d (arrOf st) j) (kp kf d (arrOf st) i)=true:=(L.two B hi hj n).resolve_left (by rw[h];decide)
end
section
variable {prog:Program}{w:World}{A:Around}{E:Value->Shared->Prop}{s:Shared}{α:Type}
end
section
variable {X:Cx}
end
section
variable {prog:Program}{w:World}{A:Around}{E:Value->Shared->Prop}{s:Shared}
end
section
variable {X:Cx}{o:Expr}{lo hi:Option Expr}{pos p2:Pos}{to:TE}{tl th:TO}
end
section
variable {X:Cx}{pins:List (Addr×Obj)}{σ:St}{H G:Hp}{s:Shared}{h':Heap}
end
section
variable {X:Cx}{l:Expr}{tl:TE}{pos npos apos cpos:Pos}
end
section
variable {X:Cx}
end
inductive Mx where
 |i (n:Int) |s (x:Str) |b (v:Bool)
 deriving DecidableEq
noncomputable def Mx.v:Mx->V
 | .i n=>.int n
 | .s x=>.str x
 | .b v=>.bl v
section
variable {K:PySem.W.Frag}{Er:Exc->Hp->Prop}{S:SC}{OO OO' OO1 OO2 OO3:List (List XH)}{σ:St}{α β γ δ ρ:Type}{u:TS}
end
section
variable {K:PySem.W.Frag}{Er:Exc->Hp->Prop}{S:SC}{OO OO' OO1 OO2 OO3:List (List XH)}{σ:St}{α β γ δ ρ ι:Type}{α1 α2 α3 α4 α5:Type}{u:TS}
variable {Fd:Ends->β->Hp->Prop}[fd:FdOk Fd]
theorem EvP.st {t:TO}{m:Rs (Option Int)}(he:EvP Er S OO σ t m){H:Hp}{D:Ends}{Q:Option Int->Hp->Prop}(w:W OO H)(s:S.p (hid H OO)){f:Option Int->Rs β}(P:PZ Er (Fd D) (hid H OO) (m.bind f))
  (hk:∀a H',Xz H H'->W OO H'->S.p (hid H' OO)->PZ Er (Fd D) (hid H' OO) (f a)->Q a H'):t σ H Q:=by
 refine he H Q w s ?_
 cases m with
 |bad=>exact P
 |err x=>exact λH' s'=>P H' (Xx.trans s')
 |ok a=>exact λH' s'=>hk a H' s' (w.keep s') (S.mono _ _ (Xk s') s) (PZ.tr (fd.tr D) (Xk s') P)
section
variable {o:OE ρ}{kf:Nat}{Cf:List XH}{J:Jn γ ι}
end
end
section
variable {K:PySem.W.Frag}{Er:Exc->Hp->Prop}{S:SC}{OO:List (List XH)}{σ:St}{α β γ ρ ι:Type}{u:TS}{Fd:Ends->β->Hp->Prop}[fd:FdOk Fd]
end
section
variable {K:PySem.W.Frag}{Er:Exc->Hp->Prop}{S:SC}{OO OO':List (List XH)}{σ:St}{α1 α2 α3 β ρ:Type}{u:TS}
end
end L2
namespace My
open PySem L2
noncomputable def Uy (a_0:((List (List Int))×(List (Int×Int))))(a_1:Int):Rs (Int×Int):=(Rs.bind (Rs.bind (Rs.bind (Rs.ok a_0) λx1=>(Rs.ok x1.1)) λx2=>(Rs.ok (J2 x2))) λx20=>(Rs.bind (forC x20 () (λg5 a7=>(Rs.bind (Rs.bind (Rs.ok a_1) λx9=>(Rs.bind (Rs.ok a7.2) λx10=>(Rs.ok (decide (x9∈x10))))) λx11=>(if x11=true then(Rs.bind (Rs.bind (Rs.ok a7.1) λx14=>(Rs.bind (Rs.bind (Rs.ok a7.2) λx12=>(Rs.bind (Rs.ok a_1) λx13=>(Hr x12 x13))) λx15=>(Rs.ok (x14,x15)))) λx17=>(Rs.ok (Ctl.ret x17))) else(Rs.bind (Rs.ok ()) λx16=>(Rs.ok (Ctl.nx x16))))))) (Q4 λg18=>Rs.bad)))
noncomputable def XS (a_0:(List Int)):Rs Int:=(Rs.bind (Rs.bind (Rs.ok a_0) λx6=>(ES x6 (λa4=>(Rs.bind (Rs.ok a4) λx7=>(Rs.bind (Rs.ok (0:Int)) λx8=>(Rs.ok (decide (x7<x8)))))) (λa4=>(Rs.ok a4)))) λa1=>(Rs.bind (Rs.bind (Rs.ok a1) λx10=>(Rs.ok (x10.length:Int))) λx11=>(Rs.bind (Rs.ok (1:Int)) λx12=>(Rs.ok (max x11 x12)))))
noncomputable def YR (a_0:(List Int))(a_1:Int):Rs (List Int):=(Rs.bind (Rs.bind (Rs.ok a_0) λx4=>(noE (XS x4))) λa1=>(Rs.bind (Rs.ok (0:Int)) λa5=>(Rs.bind (Rs.bind (Rs.bind (Rs.ok a_1) λx11=>(Rs.bind (Rs.ok []) λx12=>(Rs.ok (x11::x12)))) λx10=>(chk (x10.length<=sizeLine) (Rs.ok x10))) λa7=>(Rs.bind (Rs.bind (Rs.ok a_0) λx15=>(Rs.bind (Rs.ok none) λx16=>(Rs.bind (Rs.bind (Rs.bind (Rs.ok (1:Int)) λx13=>(Rs.ok (-x13))) λx14=>(Rs.ok (some x14))) λx17=>(Rs.ok (DM x15 x16 x17))))) λx43=>(Rs.bind (forN x43 (a5,a7) (λg20 a22=>(Rs.bind (Rs.bind (Rs.bind (Rs.ok a22) λx24=>(Rs.bind (Rs.ok (0:Int)) λx25=>(Rs.ok (decide (x24<x25))))) λx26=>(if x26=true then(Rs.bind (Rs.ok (1:Int)) λx29=>((λ(a31:Int)=>(Rs.ok (a31))) (g20.1+x29))) else(Rs.ok (g20.1)))) λg33=>(Rs.bind (Rs.bind (Rs.ok a_1) λx36=>(Rs.bind (Rs.bind (Rs.ok g33) λx34=>(Rs.bind (Rs.ok a1) λx35=>(Z2 x34 x35))) λx37=>(Rs.ok (x36+x37)))) λa38=>(chk (g20.2.length<sizeLine) ((λa40=>(Rs.ok (g33,a40))) (g20.2++[a38]))))))) λg41=>(Rs.ok g41.2))))))
noncomputable def U5 (a_0:((List (List Int))×(List (Int×Int)))):Rs (List (List Int)):=(Rs.bind (Rs.ok []) λa1=>(Rs.bind (Rs.ok (0:Int)) λa4=>(Rs.bind (Rs.bind (Rs.ok a_0) λx6=>(Rs.ok x6.1)) λx26=>(Rs.bind (forN x26 (a4,a1) (λg9 a11=>(Rs.bind (Rs.bind (Rs.ok a11) λx14=>(Rs.bind (Rs.ok g9.1) λx15=>(noE (YR x14 x15)))) λa16=>(chk (g9.2.length<sizeLine) ((λa18=>(Rs.bind (Rs.bind (Rs.ok a11) λx20=>(noE (XS x20))) λx21=>((λ(a23:Int)=>(Rs.ok (a23,a18))) (g9.1+x21)))) (g9.2++[a16])))))) λg24=>(Rs.ok g24.2)))))
noncomputable def Yy (a_0:((List (List Int))×(List (Int×Int)))):Rs Int:=(Rs.bind (Rs.bind (Rs.bind (Rs.ok a_0) λx2=>(Rs.ok x2.1)) λx6=>(JP x6 (λa4=>(Rs.bind (Rs.ok a4) λx8=>(noE (XS x8)))))) λx9=>(Rs.ok (x9.sum)))
noncomputable def ZN (a_0:((List (List Int))×(List (Int×Int)))):Rs (List (Int×Int×Int×Int×Int)):=(Rs.bind (Rs.bind (Rs.ok a_0) λx4=>(noE (U5 x4))) λa1=>(Rs.bind (Rs.ok []) λa5=>(Rs.bind (Rs.bind (Rs.ok a_0) λx8=>(Rs.ok x8.2)) λx64=>(Rs.bind (forN x64 (a5) (λg11 a13=>(Rs.bind (Rs.bind (Rs.ok a_0) λx18=>(Rs.bind (Rs.ok a13.1) λx19=>(noE (Uy x18 x19)))) λa15=>(Rs.bind (Rs.bind (Rs.ok a_0) λx24=>(Rs.bind (Rs.bind (Rs.ok a13.1) λx23=>(Rs.ok (-x23))) λx25=>(noE (Uy x24 x25)))) λa20=>(Rs.bind (Rs.bind (Rs.bind (Rs.ok a1) λx29=>(Rs.bind (Rs.bind (Rs.ok a15) λx28=>(Rs.ok x28.1)) λx30=>(atR x29 x30))) λx32=>(Rs.bind (Rs.bind (Rs.ok a15) λx31=>(Rs.ok x31.2)) λx33=>(atR x32 x33))) λa26=>(Rs.bind (Rs.bind (Rs.ok a1) λx37=>(Rs.bind (Rs.bind (Rs.ok a20) λx36=>(Rs.ok x36.1)) λx38=>(atR x37 x38))) λa34=>(Rs.bind (Rs.bind (Rs.ok a34) λx42=>(Rs.bind (Rs.bind (Rs.ok a20) λx41=>(Rs.ok x41.2)) λx43=>(atR x42 x43))) λa39=>(Rs.bind (Rs.bind (Rs.ok a34) λx52=>(Rs.bind (Rs.bind (Rs.bind (Rs.bind (Rs.ok a20) λx46=>(Rs.ok x46.2)) λx47=>(Rs.bind (Rs.ok (1:Int)) λx48=>(Rs.ok (x47+x48)))) λx50=>(Rs.bind (Rs.bind (Rs.ok a34) λx49=>(Rs.ok (x49.length:Int))) λx51=>(Z2 x50 x51))) λx53=>(atR x52 x53))) λa44=>(Rs.bind (Rs.bind (Rs.ok a13.1) λx54=>(Rs.bind (Rs.ok a13.2) λx55=>(Rs.bind (Rs.ok a26) λx56=>(Rs.bind (Rs.ok a39) λx57=>(Rs.bind (Rs.ok a44) λx58=>(Rs.ok (x54,x55,x56,x57,x58))))))) λa59=>(chk (g11.length<sizeLine) ((λa61=>(Rs.ok (a61))) (g11++[a59])))))))))))) λg62=>(Rs.ok g62)))))
noncomputable def YT (a_0:Int)(a_1:Int):Rs Unit:=(Rs.bind (Rs.bind (Rs.ok a_1) λx5=>(Rs.bind (Rs.ok a_0) λx6=>(Rs.ok (decide (x6<x5))))) λx7=>(if x7=true then Rs.bad else(Rs.ok ())))
noncomputable def Vh (a_0:((List (List Int))×(List (Int×Int)))):Rs (List (Int×Int×Int)):=(Rs.bind (Rs.ok []) λa1=>(Rs.bind (Rs.bind (Rs.ok a_0) λx5=>(noE (ZN x5))) λx26=>(Rs.bind (forN x26 (a1) (λg8 a10=>(Rs.bind (Rs.bind (Rs.bind (Rs.ok a10.2.1) λx12=>(Rs.bind (Rs.ok (1:Int)) λx13=>(Rs.ok (decide (x12=x13))))) λx20=>(if x20=true then(Rs.bind (Rs.ok a10.2.2.2.1) λx14=>(Rs.bind (Rs.ok a10.2.2.1) λx15=>(Rs.bind (Rs.ok a10.2.2.2.2) λx16=>(Rs.ok (x14,x15,x16))))) else(Rs.bind (Rs.ok a10.2.2.2.2) λx17=>(Rs.bind (Rs.ok a10.2.2.1) λx18=>(Rs.bind (Rs.ok a10.2.2.2.1) λx19=>(Rs.ok (x17,x18,x19))))))) λa21=>(chk (g8.length<sizeLine) ((λa23=>(Rs.ok (a23))) (g8++[a21])))))) λg24=>(Rs.ok g24))))
noncomputable def ZI (a_0:(List (List Int)))(a_1:(List Int))(a_2:(List (Int×Int×Int))):Rs Bool:=(Rs.bind (Rs.bind (Rs.ok a_2) λx5=>(JP x5 (λa3=>(Rs.bind (Rs.bind (Rs.bind (Rs.ok a_0) λx8=>(Rs.bind (Rs.bind (Rs.ok a_1) λx6=>(Rs.bind (Rs.ok a3.1) λx7=>(atR x6 x7))) λx9=>(atR x8 x9))) λx12=>(Rs.bind (Rs.bind (Rs.ok a_1) λx10=>(Rs.bind (Rs.ok a3.2.1) λx11=>(atR x10 x11))) λx13=>(atR x12 x13))) λx16=>(Rs.bind (Rs.bind (Rs.ok a_1) λx14=>(Rs.bind (Rs.ok a3.2.2) λx15=>(atR x14 x15))) λx17=>(Rs.ok (decide (x16=x17)))))))) λx18=>(Rs.ok (x18.all id)))
noncomputable def Yi (a_0:Int)(a_1:Int):Rs Unit:=(Rs.bind (Rs.ok (1:Int)) λa5=>(Rs.bind (Rs.bind (Rs.ok a_1) λx7=>(Vu 0 x7)) λx22=>(Rs.bind (forN x22 (a5) (λg10 a12=>(Rs.bind (Rs.ok a_0) λx14=>(Rs.bind (Qr g10 x14) λa16=>(Rs.ok (a16)))))) λg17=>(Rs.bind (Rs.bind (Rs.ok g17) λx19=>(Rs.bind (Rs.ok (65536:Int)) λx20=>(Rs.ok (decide (x20<x19))))) λx21=>(if x21=true then Rs.bad else(Rs.ok ()))))))
noncomputable def YG (a_0:(List (List Int)))(a_1:(List (List Int)))(a_2:(List (Int×Int×Int))):Rs (List (List Int)):=(Rs.bind (Rs.ok []) λa1=>(Rs.bind (Rs.ok a_0) λx43=>(Rs.bind (forN x43 (a1) (λg6 a8=>(Rs.bind (Rs.bind (Rs.bind (Rs.ok a_1) λx10=>(Rs.ok (x10.length:Int))) λx11=>(Vu 0 x11)) λx40=>(Rs.bind (forN x40 (g6) (λg14 a16=>(Rs.bind (Rs.bind (Rs.ok a8) λx21=>(Rs.bind (Rs.bind (Rs.bind (Rs.ok a16) λx24=>(Rs.bind (Rs.ok []) λx25=>(Rs.ok (x24::x25)))) λx23=>(chk (x23.length<=sizeLine) (Rs.ok x23))) λx22=>(DL x21 x22))) λa18=>(Rs.bind (Rs.bind (Rs.bind (Rs.ok a_1) λx27=>(Rs.bind (Rs.ok a18) λx28=>(Rs.bind (Rs.ok a_2) λx29=>(noE (ZI x27 x28 x29))))) λx30=>(if x30=true then(Rs.bind (Rs.ok a18) λa33=>(chk (g14.length<sizeLine) ((λa35=>(Rs.ok (a35))) (g14++[a33])))) else(Rs.ok (g14)))) λg37=>(Rs.ok (g37)))))) λg38=>(Rs.ok (g38)))))) λg41=>(Rs.ok g41))))
noncomputable def Yv (a_0:((List (List Int))×(List (Int×Int))))(a_1:(List (List Int))):Rs (List (List Int)):=(Rs.bind (Rs.bind (Rs.ok a_0) λx4=>(noE (Yy x4))) λa1=>(Rs.bind (Rs.bind (Rs.bind (Rs.ok a_1) λx6=>(Rs.ok (x6.length:Int))) λx7=>(Rs.bind (Rs.ok a1) λx8=>(noE (Yi x7 x8)))) λx9=>(Rs.bind (Rs.bind (Rs.ok a_0) λx13=>(noE (Vh x13))) λa10=>(Rs.bind (Rs.bind (Rs.bind (Rs.ok []) λx18=>(Rs.bind (Rs.ok []) λx19=>(Rs.ok (x18::x19)))) λx17=>(chk (x17.length<=sizeLine) (Rs.ok x17))) λa14=>(Rs.bind (Rs.bind (Rs.ok a1) λx20=>(Vu 0 x20)) λx43=>(Rs.bind (forN x43 (a14) (λg23 a25=>(Rs.bind (Rs.bind (Rs.ok g23) λx38=>(Rs.bind (Rs.ok a_1) λx39=>(Rs.bind (Rs.bind (Rs.ok a10) λx34=>(ES x34 (λa32=>(Rs.bind (Rs.bind (Rs.bind (Rs.ok a32) λx35=>(Rs.ok [x35.1,x35.2.1,x35.2.2])) Ov) λx36=>(Rs.bind (Rs.ok a25) λx37=>(Rs.ok (decide (x36=x37)))))) (λa32=>(Rs.ok a32)))) λx40=>(noE (YG x38 x39 x40))))) λa27=>(Rs.ok (a27))))) λg41=>(Rs.ok g41)))))))
noncomputable def UP (a_0:((List (List Int))×(List (Int×Int))))(a_1:(List (List Int))):Rs Int:=(Rs.bind (Rs.bind (Rs.ok a_0) λx3=>(Rs.bind (Rs.ok a_1) λx4=>(noE (Yv x3 x4)))) λx5=>(Rs.ok (x5.length:Int)))
noncomputable def ZK (a_0:Int):Rs Bool:=(Rs.bind (orR (Rs.bind (Rs.ok a_0) λx1=>(Rs.bind (Rs.ok (2:Int)) λx2=>(Rs.ok (decide (x1<x2))))) (Rs.bind (Rs.ok a_0) λx3=>(Rs.bind (Rs.ok (100000:Int)) λx4=>(Rs.ok (decide (x4<x3)))))) λx5=>(if x5=true then(Rs.ok false) else(Rs.bind (Rs.ok (2:Int)) λa6=>(Rs.bind (Vo (a_0.natAbs+2) (a6) (λg10=>(Rs.bind (Rs.bind (Rs.ok g10) λx12=>(Rs.bind (Rs.ok g10) λx13=>(Qr x12 x13))) λx14=>(Rs.bind (Rs.ok a_0) λx15=>(Rs.ok (decide (x14<=x15)))))) (λg10=>(Rs.bind (Rs.bind (Rs.bind (Rs.ok a_0) λx16=>(Rs.bind (Rs.ok g10) λx17=>(Z2 x16 x17))) λx18=>(Rs.bind (Rs.ok (0:Int)) λx19=>(Rs.ok (decide (x18=x19))))) λx20=>(if x20=true then(Rs.bind (Rs.ok false) λx25=>(Rs.ok (Ctl.ret x25))) else(Rs.bind (Rs.ok (1:Int)) λx21=>((λ(a23:Int)=>(Rs.bind (Rs.ok (a23)) λx24=>(Rs.ok (Ctl.nx x24)))) (g10+x21))))))) (Q4 λg26=>(Rs.ok true))))))
noncomputable def YV (a_0:Int)(a_1:Int):Rs Unit:=(Rs.bind (Rs.bind (Rs.bind (Rs.ok a_0) λx6=>(noE (ZK x6))) λx7=>(Rs.ok (!x7))) λx8=>(if x8=true then Rs.bad else(Rs.bind (Rs.bind (Rs.bind (Rs.ok a_1) λx9=>(Rs.bind (Rs.ok a_0) λx10=>(Z2 x9 x10))) λx11=>(Rs.bind (Rs.ok (0:Int)) λx12=>(Rs.ok (decide (x11=x12))))) λx13=>(if x13=true then Rs.bad else(Rs.ok ())))))
noncomputable def Y2 (a_0:((List (List Int))×(List (Int×Int))))(a_1:Int)(a_2:Int):Rs (List (List Int)):=(Rs.bind (Rs.bind (Rs.ok a_1) λx2=>(Rs.bind (Rs.ok a_2) λx3=>(noE (YV x2 x3)))) λx4=>(Rs.bind (Rs.bind (Rs.ok a_0) λx8=>(noE (Yy x8))) λa5=>(Rs.bind (Rs.ok []) λa9=>(Rs.bind (Rs.bind (Rs.ok a_0) λx13=>(noE (Vh x13))) λx56=>(Rs.bind (forN x56 (a9) (λg16 a18=>(Rs.bind (Rs.bind (Rs.bind (Rs.bind (Rs.ok (0:Int)) λx26=>(Rs.bind (Rs.ok []) λx27=>(Rs.ok (x26::x27)))) λx25=>(chk (x25.length<=sizeLine) (Rs.ok x25))) λx23=>(Rs.bind (Rs.ok a5) λx24=>(G6 x23 x24))) λa20=>(Rs.bind (Rs.ok a18.1) λx30=>(Rs.bind (atR a20 x30) λx31=>(Rs.bind (Rs.ok a_2) λx32=>(Rs.bind (QO a20 x30 (x31+x32)) λa28=>(Rs.bind (Rs.ok a18.2.1) λx37=>(Rs.bind (atR a28 x37) λx38=>(Rs.bind (Rs.bind (Rs.ok (1:Int)) λx33=>(Rs.bind (Rs.ok a_2) λx34=>(Rs.ok (x33-x34)))) λx39=>(Rs.bind (QO a28 x37 (x38+x39)) λa35=>(Rs.bind (Rs.ok a18.2.2) λx42=>(Rs.bind (atR a35 x42) λx43=>(Rs.bind (Rs.ok (1:Int)) λx44=>(Rs.bind (QO a35 x42 (x43-x44)) λa40=>(Rs.bind (Rs.bind (Rs.ok a40) λx48=>(JP x48 (λa46=>(Rs.bind (Rs.ok a46) λx49=>(Rs.bind (Rs.ok a_1) λx50=>(Z2 x49 x50)))))) λa51=>(chk (g16.length<sizeLine) ((λa53=>(Rs.ok (a53))) (g16++[a51]))))))))))))))))))) λg54=>(Rs.ok g54))))))
noncomputable def QX (a_0:(List Int))(a_1:(List Int)):Rs Int:=(Rs.bind (Rs.bind (Rs.bind (Rs.ok a_0) λx2=>(Rs.bind (Rs.ok a_1) λx3=>(Rs.ok (x2.zip x3)))) λx7=>(JP x7 (λa5=>(Rs.bind (Rs.ok a5.1) λx8=>(Rs.bind (Rs.ok a5.2) λx9=>(Qr x8 x9)))))) λx10=>(Rs.ok (x10.sum)))
noncomputable def Vb (a_0:((List (List Int))×(List (Int×Int))))(a_1:Int)(a_2:Int)(a_3:(List Int)):Rs Bool:=(Rs.bind (Rs.bind (Rs.ok a_0) λx4=>(Rs.bind (Rs.ok a_1) λx5=>(Rs.bind (Rs.ok a_2) λx6=>(noE (Y2 x4 x5 x6))))) λa1=>(Rs.bind (Rs.bind (Rs.ok a1) λx11=>(JP x11 (λa9=>(Rs.bind (Rs.bind (Rs.bind (Rs.ok a9) λx13=>(Rs.bind (Rs.ok a_3) λx14=>(noE (QX x13 x14)))) λx15=>(Rs.bind (Rs.ok a_1) λx16=>(Z2 x15 x16))) λx17=>(Rs.bind (Rs.ok (0:Int)) λx18=>(Rs.ok (decide (x17=x18)))))))) λx19=>(Rs.ok (x19.all id))))
noncomputable def J5 (a_0:(List Int))(a_1:Int)(a_2:Int):Rs (List Int):=(Rs.bind (Rs.ok a_0) λx4=>(JP x4 (λa2=>(Rs.bind (Rs.bind (Rs.ok a_1) λx5=>(Rs.bind (Rs.ok a2) λx6=>(Qr x5 x6))) λx7=>(Rs.bind (Rs.ok a_2) λx8=>(Z2 x7 x8))))))
noncomputable def YU (a_0:Int)(a_1:Int):Rs Int:=(Rs.bind (Rs.ok (1:Int)) λa1=>(Rs.bind (Rs.ok a_0) λa3=>(Rs.bind (Rs.bind (Rs.ok a_1) λx7=>(Rs.bind (Rs.ok (2:Int)) λx8=>(Rs.ok (x7-x8)))) λa5=>(Rs.bind (Qd (100) (a3,a5,a1) (λg11=>(Rs.bind (Rs.ok g11.2.1) λx13=>(Rs.bind (Rs.ok (0:Int)) λx14=>(Rs.ok (decide (x14<x13)))))) (λg11=>(Rs.bind (Rs.bind (Rs.bind (Rs.bind (Rs.ok g11.2.1) λx15=>(Rs.bind (Rs.ok (2:Int)) λx16=>(Z2 x15 x16))) λx17=>(Rs.bind (Rs.ok (1:Int)) λx18=>(Rs.ok (decide (x17=x18))))) λx19=>(if x19=true then(Rs.bind (Rs.bind (Rs.bind (Rs.ok g11.2.2) λx24=>(Rs.bind (Rs.ok g11.1) λx25=>(Qr x24 x25))) λx26=>(Rs.bind (Rs.ok a_1) λx27=>(Z2 x26 x27))) λa22=>(Rs.ok (a22))) else(Rs.ok (g11.2.2)))) λg29=>(Rs.bind (Rs.bind (Rs.bind (Rs.ok g11.1) λx32=>(Rs.bind (Rs.ok g11.1) λx33=>(Qr x32 x33))) λx34=>(Rs.bind (Rs.ok a_1) λx35=>(Z2 x34 x35))) λa30=>(Rs.bind (Rs.ok (2:Int)) λx36=>(Rs.bind (NX g11.2.1 x36) λa38=>(Rs.ok (a30,a38,g29)))))))) λg39=>(Rs.ok g39.2.2)))))
noncomputable def Zx (a_0:(List Int))(a_1:(List Int))(a_2:Int)(a_3:Int):Rs (List Int):=(Rs.bind (Rs.bind (Rs.ok a_0) λx1=>(Rs.bind (Rs.ok a_1) λx2=>(Rs.ok (x1.zip x2)))) λx6=>(JP x6 (λa4=>(Rs.bind (Rs.bind (Rs.ok a4.1) λx11=>(Rs.bind (Rs.bind (Rs.bind (Rs.ok a_0) λx7=>(Rs.bind (Rs.ok a_2) λx8=>(atR x7 x8))) λx9=>(Rs.bind (Rs.ok a4.2) λx10=>(Qr x9 x10))) λx12=>(Rs.ok (x11-x12)))) λx13=>(Rs.bind (Rs.ok a_3) λx14=>(Z2 x13 x14))))))
noncomputable def ZM (a_0:(List (List Int)))(a_1:Int)(a_2:Int):Rs (List (Int×(List Int))):=(Rs.bind (Rs.ok []) λa1=>(Rs.bind (Rs.ok a_0) λa4=>(Rs.bind (Rs.bind (Rs.ok a_1) λx6=>(Vu 0 x6)) λx81=>(Rs.bind (forN x81 (a4,a1) (λg9 a11=>(Rs.bind (Rs.bind (Rs.ok g9.1) λx18=>(ES x18 (λa16=>(Rs.bind (Rs.bind (Rs.ok a16) λx19=>(Rs.bind (Rs.ok a11) λx20=>(atR x19 x20))) λx21=>(Rs.bind (Rs.ok (0:Int)) λx22=>(Rs.ok (!(decide (x21=x22))))))) (λa16=>(Rs.ok a16)))) λa13=>(Rs.bind (Rs.bind (Rs.bind (Rs.bind (Rs.ok a13) λx23=>(Rs.ok (x23.length:Int))) λx24=>(Rs.bind (Rs.ok (0:Int)) λx25=>(Rs.ok (decide (x25<x24))))) λx26=>(if x26=true then(Rs.bind (Rs.bind (Rs.bind (Rs.ok a13) λx33=>(Rs.bind (Rs.ok (0:Int)) λx34=>(atR x33 x34))) λx42=>(Rs.bind (Rs.bind (Rs.bind (Rs.bind (Rs.ok a13) λx36=>(Rs.bind (Rs.ok (0:Int)) λx37=>(atR x36 x37))) λx38=>(Rs.bind (Rs.ok a11) λx39=>(atR x38 x39))) λx40=>(Rs.bind (Rs.ok a_2) λx41=>(noE (YU x40 x41)))) λx43=>(Rs.bind (Rs.ok a_2) λx44=>(noE (J5 x42 x43 x44))))) λa29=>(Rs.bind (Rs.bind (Rs.ok g9.1) λx50=>(JP x50 (λa48=>(Rs.bind (Rs.ok a48) λx52=>(Rs.bind (Rs.ok a29) λx53=>(Rs.bind (Rs.ok a11) λx54=>(Rs.bind (Rs.ok a_2) λx55=>(noE (Zx x52 x53 x54 x55))))))))) λa45=>(Rs.bind (Rs.bind (Rs.bind (Rs.ok g9.2) λx64=>(JP x64 (λa62=>(Rs.bind (Rs.ok a62.1) λx70=>(Rs.bind (Rs.bind (Rs.ok a62.2) λx66=>(Rs.bind (Rs.ok a29) λx67=>(Rs.bind (Rs.ok a11) λx68=>(Rs.bind (Rs.ok a_2) λx69=>(noE (Zx x66 x67 x68 x69)))))) λx71=>(Rs.ok (x70,x71))))))) λx59=>(Rs.bind (Rs.bind (Rs.bind (Rs.bind (Rs.ok a11) λx73=>(Rs.bind (Rs.ok a29) λx74=>(Rs.ok (x73,x74)))) λx75=>(Rs.bind (Rs.ok []) λx76=>(Rs.ok (x75::x76)))) λx72=>(chk (x72.length<=sizeLine) (Rs.ok x72))) λx60=>(DL x59 x60))) λa56=>(Rs.ok (a45,a56))))) else(Rs.ok (g9.1,g9.2)))) λg78=>(Rs.ok (g78.1,g78.2)))))) λg79=>(Rs.ok g79.2)))))
noncomputable def Vm (a_0:Int)(a_1:Int):Rs (List Int):=(Rs.bind (Rs.bind (Rs.bind (Rs.bind (Rs.ok (0:Int)) λx7=>(Rs.bind (Rs.ok []) λx8=>(Rs.ok (x7::x8)))) λx6=>(chk (x6.length<=sizeLine) (Rs.ok x6))) λx4=>(Rs.bind (Rs.ok a_0) λx5=>(G6 x4 x5))) λa1=>(Rs.bind (Rs.ok (1:Int)) λx9=>(Rs.bind (Rs.ok a_1) λx10=>(Rs.bind (QO a1 x10 x9) λa11=>(Rs.ok a11)))))
noncomputable def YQ (a_0:(List (List Int))):Rs (List (List Int)):=(Rs.bind (Rs.bind (Rs.ok a_0) λx1=>(Rs.ok (J2 x1))) λx5=>(JP x5 (λa3=>(Rs.bind (Rs.ok a3.2) λx6=>(Rs.bind (Rs.bind (Rs.bind (Rs.ok a_0) λx9=>(Rs.ok (x9.length:Int))) λx10=>(Rs.bind (Rs.ok a3.1) λx11=>(noE (Vm x10 x11)))) λx7=>(DL x6 x7))))))
noncomputable def YS (a_0:Int)(a_1:(List (Int×(List Int))))(a_2:Int)(a_3:Int):Rs (List Int):=(Rs.bind (Rs.bind (Rs.ok a_2) λx5=>(Rs.bind (Rs.ok a_0) λx6=>(noE (Vm x5 x6)))) λa1=>(Rs.bind (Rs.ok a_1) λx24=>(Rs.bind (forN x24 (a1) (λg9 a11=>(Rs.bind (Rs.bind (Rs.bind (Rs.bind (Rs.ok a11.2) λx13=>(Rs.bind (Rs.ok a_0) λx14=>(atR x13 x14))) λx15=>(Rs.ok (-x15))) λx16=>(Rs.bind (Rs.ok a_3) λx17=>(Z2 x16 x17))) λx18=>(Rs.bind (Rs.ok a11.1) λx19=>(Rs.bind (QO g9 x19 x18) λa20=>(Rs.ok (a20))))))) λg22=>(Rs.ok g22))))
noncomputable def Z0 (a_0:((List (List Int))×(List (Int×Int))))(a_1:Int)(a_2:Int):Rs ((List Int)×(List (List Int))×(List (Int×(List Int)))):=(Rs.bind (Rs.bind (Rs.ok a_0) λx4=>(noE (Yy x4))) λa1=>(Rs.bind (Rs.bind (Rs.bind (Rs.bind (Rs.ok a_0) λx10=>(Rs.bind (Rs.ok a_1) λx11=>(Rs.bind (Rs.ok a_2) λx12=>(noE (Y2 x10 x11 x12))))) λx13=>(noE (YQ x13))) λx14=>(Rs.bind (Rs.ok a1) λx15=>(Rs.bind (Rs.ok a_1) λx16=>(noE (ZM x14 x15 x16))))) λa5=>(Rs.bind (Rs.bind (Rs.ok a5) λx20=>(Rs.ok (DU [] x20))) λa17=>(Rs.bind (Rs.bind (Rs.bind (Rs.ok a1) λx24=>(Vu 0 x24)) λx28=>(ES x28 (λa26=>(Rs.bind (Rs.ok a26) λx29=>(Rs.bind (Rs.ok a17) λx30=>(Rs.ok (!(Zp x30 x29).isSome))))) (λa26=>(Rs.ok a26)))) λa21=>(Rs.bind (Rs.bind (Rs.ok a21) λx37=>(JP x37 (λa35=>(Rs.bind (Rs.ok a35) λx40=>(Rs.bind (Rs.ok a17) λx41=>(Rs.bind (Rs.ok a1) λx42=>(Rs.bind (Rs.ok a_1) λx43=>(noE (YS x40 x41 x42 x43))))))))) λa31=>(Rs.bind (Rs.ok a21) λx54=>(Rs.bind (Rs.ok a31) λx55=>(Rs.bind (Rs.bind (Rs.ok a5) λx47=>(JP x47 (λa45=>(Rs.bind (Rs.ok a45.1) λx52=>(Rs.bind (Rs.bind (Rs.ok a45.2) λx49=>(Rs.bind (Rs.bind (Rs.ok a1) λx48=>(Rs.ok (some x48))) λx50=>(Rs.bind (Rs.ok none) λx51=>(Rs.ok (DM x49 x50 x51))))) λx53=>(Rs.ok (x52,x53))))))) λx56=>(Rs.ok (x54,x55,x56))))))))))
noncomputable def YI (a_0:((List (List Int))×(List (Int×Int))))(a_1:Int)(a_2:Int):Rs Int:=(Rs.bind (Rs.ok (1:Int)) λa1=>(Rs.bind (Rs.bind (Rs.bind (Rs.ok a_0) λx4=>(Rs.bind (Rs.ok a_1) λx5=>(Rs.bind (Rs.ok a_2) λx6=>(noE (Z0 x4 x5 x6))))) λx7=>(Rs.ok x7.1)) λx19=>(Rs.bind (forN x19 (a1) (λg10 a12=>(Rs.bind (Rs.ok a_1) λx14=>(Rs.bind (Qr g10 x14) λa16=>(Rs.ok (a16)))))) λg17=>(Rs.ok g17))))
noncomputable def Yu (a_0:Int)(a_1:Int):Rs Int:=(Rs.bind (Rs.ok a_1) λa1=>(Rs.bind (Rs.bind (Rs.ok a_0) λx5=>(Rs.bind (Rs.ok a_1) λx6=>(Z2 x5 x6))) λa3=>(Rs.bind (Qd (a_1.natAbs+2) (a1,a3) (λg9=>(Rs.bind (Rs.ok g9.2) λx11=>(Rs.bind (Rs.ok (0:Int)) λx12=>(Rs.ok (!(decide (x11=x12))))))) (λg9=>(Rs.bind (Rs.bind (Rs.ok g9.1) λx15=>(Rs.bind (Rs.ok g9.2) λx16=>(Z2 x15 x16))) λa13=>(Rs.bind (Rs.ok g9.2) λa17=>(Rs.bind (Rs.ok a13) λa19=>(Rs.ok (a17,a19))))))) λg21=>(Rs.ok g21.1))))
noncomputable def QN (a_0:Int)(a_1:Int):Rs (List (List Int)):=(Rs.bind (Rs.bind (Rs.ok (24:Int)) λx2=>(Rs.bind (Rs.ok a_0) λx3=>(noE (YT x2 x3)))) λx4=>(Rs.bind (Rs.bind (Rs.bind (Rs.ok a_1) λx6=>(Rs.bind (Rs.ok a_0) λx7=>(noE (Yu x6 x7)))) λx8=>(Rs.bind (Rs.ok (1:Int)) λx9=>(Rs.ok (decide (x9<x8))))) λx10=>(if x10=true then Rs.bad else(Rs.bind (Rs.bind (Rs.ok a_0) λx11=>(Vu 0 x11)) λx15=>(JP x15 (λa13=>(Rs.bind (Rs.bind (Rs.ok a_0) λx16=>(Vu 0 x16)) λx20=>(JP x20 (λa18=>(Rs.bind (Rs.bind (Rs.bind (Rs.ok a_1) λx21=>(Rs.bind (Rs.ok a13) λx22=>(Qr x21 x22))) λx27=>(Rs.bind (Rs.bind (Rs.bind (Rs.ok (1:Int)) λx23=>(Rs.bind (Rs.ok a_1) λx24=>(Rs.ok (x23-x24)))) λx25=>(Rs.bind (Rs.ok a18) λx26=>(Qr x25 x26))) λx28=>(Rs.ok (x27+x28)))) λx29=>(Rs.bind (Rs.ok a_0) λx30=>(Z2 x29 x30))))))))))))
noncomputable def VM (a_0:(List Int))(a_1:Int):Rs Int:=(Rs.bind (Rs.bind (Rs.ok a_1) λx2=>(Rs.bind (Rs.bind (Rs.ok a_0) λx1=>(Rs.ok (x1.length:Int))) λx3=>(Rs.ok (decide (x2<x3))))) λx4=>(if x4=true then(Rs.bind (Rs.ok a_0) λx5=>(Rs.bind (Rs.ok a_1) λx6=>(atR x5 x6))) else(Rs.bind (Rs.ok (5:Int)) λa7=>(Rs.bind (Rs.bind (Rs.ok a_0) λx10=>(Rs.bind (Rs.ok none) λx11=>(Rs.bind (Rs.bind (Rs.ok (63:Int)) λx9=>(Rs.ok (some x9))) λx12=>(Rs.ok (DM x10 x11 x12))))) λx39=>(Rs.bind (forN x39 (a7) (λg15 a17=>(Rs.bind (Rs.bind (Rs.bind (Rs.bind (Rs.bind (Rs.ok g15) λx21=>(Rs.bind (Rs.ok (48271:Int)) λx22=>(Qr x21 x22))) λx25=>(Rs.bind (Rs.bind (Rs.ok a17) λx23=>(Rs.bind (Rs.ok (1000003:Int)) λx24=>(Z2 x23 x24))) λx26=>(Rs.ok (x25+x26)))) λx27=>(Rs.bind (Rs.ok (1:Int)) λx28=>(Rs.ok (x27+x28)))) λx29=>(Rs.bind (Rs.ok (2147483647:Int)) λx30=>(Z2 x29 x30))) λa19=>(Rs.ok (a19))))) λg31=>(Rs.bind (Rs.bind (Rs.ok g31) λx35=>(Rs.bind (Rs.bind (Rs.ok (7919:Int)) λx33=>(Rs.bind (Rs.ok a_1) λx34=>(Qr x33 x34))) λx36=>(Rs.ok (x35+x36)))) λx37=>(Rs.bind (Rs.ok (1000003:Int)) λx38=>(Z2 x37 x38))))))))
noncomputable def Fp (a_0:Int)(a_1:Int):Rs Int:=(Rs.bind (Rs.bind (Rs.bind (Rs.bind (Rs.bind (Rs.bind (Rs.ok a_0) λx3=>(Rs.bind (Rs.ok (2147483629:Int)) λx4=>(Z2 x3 x4))) λx7=>(Rs.bind (Rs.bind (Rs.ok (1013:Int)) λx5=>(Rs.bind (Rs.ok a_1) λx6=>(Qr x5 x6))) λx8=>(Rs.ok (x7+x8)))) λx9=>(Rs.bind (Rs.ok (7919:Int)) λx10=>(Rs.ok (x9+x10)))) λx11=>(Rs.bind (Rs.ok (3:Int)) λx12=>(Lg x11 x12))) λx13=>(Rs.bind (Rs.ok (2147483647:Int)) λx14=>(Z2 x13 x14))) λa1=>(Rs.bind (Rs.bind (Rs.bind (Rs.bind (Rs.bind (Rs.ok a1) λx17=>(Rs.bind (Rs.ok (40699:Int)) λx18=>(Qr x17 x18))) λx23=>(Rs.bind (Rs.bind (Rs.bind (Rs.ok (3793:Int)) λx19=>(Rs.bind (Rs.ok a_1) λx20=>(Qr x19 x20))) λx21=>(Rs.bind (Rs.ok a_1) λx22=>(Qr x21 x22))) λx24=>(Rs.ok (x23+x24)))) λx25=>(Rs.bind (Rs.ok (11:Int)) λx26=>(Rs.ok (x25+x26)))) λx27=>(Rs.bind (Rs.ok (2147483399:Int)) λx28=>(Z2 x27 x28))) λa15=>(Rs.bind (Rs.ok a15) λx29=>(Rs.bind (Rs.ok (101:Int)) λx30=>(Nk x29 x30)))))
noncomputable def KS (a_0:(List Int))(a_1:Int)(a_2:(List Int)):Rs (List Int):=(Rs.bind (Rs.bind (Rs.ok a_0) λx4=>(Rs.bind (Rs.ok a_1) λx5=>(noE (VM x4 x5)))) λa1=>(Rs.bind (Rs.ok a1) λa6=>(Rs.bind (Rs.ok []) λa8=>(Rs.bind (Rs.bind (Rs.bind (Rs.ok a_2) λx11=>(Rs.ok (x11.length:Int))) λx12=>(Vu 0 x12)) λx81=>(Rs.bind (forN x81 (a8,a6) (λg15 a17=>(Rs.bind (Rs.bind (Rs.bind (Rs.ok a1) λx21=>(Rs.bind (Rs.bind (Rs.ok (10:Int)) λx19=>(Rs.bind (Rs.ok (18:Int)) λx20=>(Lg x19 x20))) λx22=>(Rs.ok (decide (x21<x22))))) λx23=>(if x23=true then(Rs.bind (Rs.bind (Rs.bind (Rs.ok a1) λx27=>(Rs.bind (Rs.ok a17) λx28=>(noE (Fp x27 x28)))) λx31=>(Rs.bind (Rs.bind (Rs.ok a_2) λx29=>(Rs.bind (Rs.ok a17) λx30=>(atR x29 x30))) λx32=>(Z2 x31 x32))) λa33=>(chk (g15.1.length<sizeLine) ((λa35=>(Rs.ok (a35,g15.2))) (g15.1++[a33])))) else(Rs.bind (Rs.bind (Rs.bind (Rs.ok g15.2) λx36=>(Rs.bind (Rs.ok (0:Int)) λx37=>(Rs.ok (decide (x37<x36))))) λx38=>(if x38=true then(Rs.bind (Rs.bind (Rs.ok g15.2) λx43=>(Rs.bind (Rs.bind (Rs.ok a_2) λx41=>(Rs.bind (Rs.ok a17) λx42=>(atR x41 x42))) λx44=>(Z2 x43 x44))) λa45=>(chk (g15.1.length<sizeLine) ((λa47=>(Rs.bind (Rs.bind (Rs.ok g15.2) λx52=>(Rs.bind (Rs.bind (Rs.ok a_2) λx50=>(Rs.bind (Rs.ok a17) λx51=>(atR x50 x51))) λx53=>(Nk x52 x53))) λa48=>(Rs.ok (a48,a47)))) (g15.1++[a45])))) else(Rs.bind (Rs.bind (Rs.ok a_0) λx63=>(Rs.bind (Rs.bind (Rs.bind (Rs.bind (Rs.ok a_1) λx57=>(Rs.bind (Rs.ok (1:Int)) λx58=>(Rs.ok (x57+x58)))) λx59=>(Rs.bind (Rs.ok a17) λx60=>(Rs.ok (x59+x60)))) λx61=>(Rs.bind (Rs.ok (63:Int)) λx62=>(Z2 x61 x62))) λx64=>(noE (VM x63 x64)))) λa54=>(Rs.bind (Rs.bind (Rs.bind (Rs.ok a54) λx66=>(Rs.bind (Rs.ok a17) λx67=>(noE (Fp x66 x67)))) λx70=>(Rs.bind (Rs.bind (Rs.ok a_2) λx68=>(Rs.bind (Rs.ok a17) λx69=>(atR x68 x69))) λx71=>(Z2 x70 x71))) λa72=>(chk (g15.1.length<sizeLine) ((λa74=>(Rs.ok (g15.2,a74))) (g15.1++[a72]))))))) λg76=>(Rs.ok (g76.2,g76.1))))) λg78=>(Rs.ok (g78.1,g78.2))))) λg79=>(Rs.ok g79.1))))))
noncomputable def J1 (a_0:(List Int))(a_1:(List Int)):Rs (List Int):=(Rs.bind (Rs.bind (Rs.ok a_0) λx4=>(Rs.ok x4)) λa1=>(Rs.bind (Rs.ok []) λa5=>(Rs.bind (Rs.bind (Rs.bind (Rs.ok a_0) λx8=>(Rs.ok (x8.length:Int))) λx9=>(Vu 0 x9)) λx34=>(Rs.bind (forN x34 (a5,a1) (λg12 a14=>(Rs.bind (Rs.bind (Rs.bind (Rs.ok a_1) λx20=>(Rs.bind (Rs.bind (Rs.bind (Rs.ok (8:Int)) λx16=>(Rs.bind (Rs.ok a14) λx17=>(Qr x16 x17))) λx18=>(Rs.bind (Rs.ok (9:Int)) λx19=>(Rs.ok (x18+x19)))) λx21=>(atR x20 x21))) λx23=>(Rs.bind (Rs.bind (Rs.ok g12.2) λx22=>(Rs.ok (x22.length:Int))) λx24=>(Z2 x23 x24))) λx30=>(Rs.bind (Ef g12.2 x30) λp31=>(chk (g12.1.length<sizeLine) ((λa26 a27=>(Rs.ok (a27,a26))) p31.2 (g12.1++[p31.1]))))))) λg32=>(Rs.ok g32.1)))))
noncomputable def DF (a_0:(List Int))(a_1:(List Int))(a_2:Int):Rs (List (List Int)):=(Rs.bind (Rs.ok []) λa1=>(Rs.bind (Rs.ok a_0) λx70=>(Rs.bind (forN x70 (a1) (λg6 a8=>(Rs.bind (Rs.bind (Rs.bind (Rs.ok a8) λx14=>(Rs.bind (Rs.bind (Rs.bind (Rs.ok a8) λx11=>(Rs.ok (-x11))) λx12=>(Rs.bind (Rs.ok []) λx13=>(Rs.ok (x12::x13)))) λx15=>(Rs.ok (x14::x15)))) λx10=>(chk (x10.length<=sizeLine) (Rs.ok x10))) λa16=>(chk (g6.length+a16.length<=sizeLine) ((λa18=>(Rs.ok (a18))) (g6++a16)))))) λg19=>(Rs.bind (Rs.bind (Rs.bind (Rs.ok a_2) λx24=>(Vu 0 x24)) λx28=>(JP x28 (λa26=>(Rs.ok [])))) λa21=>(Rs.bind (Rs.bind (Rs.bind (Rs.ok (2:Int)) λx30=>(Rs.bind (Rs.bind (Rs.ok a_0) λx29=>(Rs.ok (x29.length:Int))) λx31=>(Qr x30 x31))) λx32=>(Vu 0 x32)) λx69=>(Rs.bind (forN x69 (g19,a21) (λg35 a37=>(Rs.bind (Rs.bind (Rs.bind (Rs.ok (4:Int)) λx41=>(Rs.bind (Rs.ok a37) λx42=>(Qr x41 x42))) λx43=>(Rs.bind (Rs.ok (5:Int)) λx44=>(Rs.ok (x43+x44)))) λa39=>(Rs.bind (Rs.bind (Rs.bind (Rs.ok a_1) λx45=>(Rs.bind (Rs.ok a39) λx46=>(atR x45 x46))) λx48=>(Rs.bind (Rs.bind (Rs.ok g35.1) λx47=>(Rs.ok (x47.length:Int))) λx49=>(Z2 x48 x49))) λx54=>(Rs.bind (Ef g35.1 x54) (λp55=>(λa50 a51=>(Rs.bind (Rs.bind (Rs.bind (Rs.ok a_1) λx58=>(Rs.bind (Rs.bind (Rs.ok a39) λx56=>(Rs.bind (Rs.ok (1:Int)) λx57=>(Rs.ok (x56+x57)))) λx59=>(atR x58 x59))) λx60=>(Rs.bind (Rs.ok a_2) λx61=>(Z2 x60 x61))) λx63=>(Rs.bind (atR g35.2 x63) λx64=>(Rs.bind (Rs.ok a50) λx62=>(chk (x64.length<sizeLine) (Rs.bind (QO g35.2 x63 (x64++[x62])) λa65=>(Rs.ok (a51,a65)))))))) p55.1 p55.2)))))) λg67=>(Rs.ok g67.2)))))))
noncomputable def Qb (a_0:(List Int))(a_1:(List (Int×Int)))(a_2:(List Int))(a_3:Int):Rs (List (List Int)):=(Rs.bind (Rs.bind (Rs.bind (Rs.bind (Rs.ok false) λx7=>(Rs.bind (Rs.ok []) λx8=>(Rs.ok (x7::x8)))) λx6=>(chk (x6.length<=sizeLine) (Rs.ok x6))) λx4=>(Rs.bind (Rs.ok a_3) λx5=>(G6 x4 x5))) λa1=>(Rs.bind (Rs.ok []) λa9=>(Rs.bind (Rs.bind (Rs.ok a_3) λx12=>(Vu 0 x12)) λx118=>(Rs.bind (forN x118 (a1,a9) (λg15 a17=>(Rs.bind (Rs.bind (Rs.bind (Rs.bind (Rs.ok g15.1) λx19=>(Rs.bind (Rs.ok a17) λx20=>(atR x19 x20))) λx21=>(Rs.ok (!x21))) λx22=>(if x22=true then(Rs.bind (Rs.ok []) λa25=>(Rs.bind (Rs.ok a17) λa28=>(Rs.bind (Qd (a_3.natAbs+2) (g15.1,a28,a25) (λg32=>(Rs.bind (Rs.bind (Rs.ok g32.1) λx34=>(Rs.bind (Rs.ok g32.2.1) λx35=>(atR x34 x35))) λx36=>(Rs.ok (!x36)))) (λg32=>(Rs.bind (Rs.ok true) λx37=>(Rs.bind (Rs.ok g32.2.1) λx38=>(Rs.bind (QO g32.1 x38 x37) λa39=>(Rs.bind (Rs.bind (Rs.bind (Rs.ok a_0) λx41=>(Rs.ok (x41.length:Int))) λx42=>(Vu 0 x42)) λx108=>(Rs.bind (forN x108 (g32.2.1,g32.2.2) (λg45 a47=>(Rs.bind (Rs.bind (Rs.bind (Rs.ok a_2) λx55=>(Rs.bind (Rs.bind (Rs.bind (Rs.ok (8:Int)) λx51=>(Rs.bind (Rs.ok a47) λx52=>(Qr x51 x52))) λx53=>(Rs.bind (Rs.ok (10:Int)) λx54=>(Rs.ok (x53+x54)))) λx56=>(atR x55 x56))) λx59=>(Rs.bind (Rs.bind (Rs.ok a_3) λx57=>(Rs.bind (Rs.ok (1:Int)) λx58=>(Rs.ok (x57-x58)))) λx60=>(Z2 x59 x60))) λa49=>(Rs.bind (Rs.bind (Rs.bind (Rs.ok g45.1) λx61=>(Rs.bind (Rs.ok a49) λx62=>(Rs.ok (decide (x61=x62))))) λx63=>(if x63=true then(Rs.bind (Rs.bind (Rs.bind (Rs.ok a_0) λx66=>(Rs.bind (Rs.ok a47) λx67=>(atR x66 x67))) λx72=>(Rs.bind (Rs.bind (Rs.ok a_1) λx70=>(Rs.bind (Rs.bind (Rs.ok a_0) λx68=>(Rs.bind (Rs.ok a47) λx69=>(atR x68 x69))) λx71=>(UC x70 x71))) λx73=>(Qr x72 x73))) λa74=>(chk (g45.2.length<sizeLine) ((λa76=>(Rs.bind (Rs.bind (Rs.ok a49) λx79=>(Rs.bind (Rs.ok (1:Int)) λx80=>(Rs.ok (x79+x80)))) λa77=>(Rs.ok (a77,a76)))) (g45.2++[a74])))) else(Rs.bind (Rs.bind (Rs.bind (Rs.ok g45.1) λx83=>(Rs.bind (Rs.bind (Rs.ok a49) λx81=>(Rs.bind (Rs.ok (1:Int)) λx82=>(Rs.ok (x81+x82)))) λx84=>(Rs.ok (decide (x83=x84))))) λx85=>(if x85=true then(Rs.bind (Rs.bind (Rs.bind (Rs.bind (Rs.ok a_0) λx88=>(Rs.bind (Rs.ok a47) λx89=>(atR x88 x89))) λx90=>(Rs.ok (-x90))) λx95=>(Rs.bind (Rs.bind (Rs.ok a_1) λx93=>(Rs.bind (Rs.bind (Rs.ok a_0) λx91=>(Rs.bind (Rs.ok a47) λx92=>(atR x91 x92))) λx94=>(UC x93 x94))) λx96=>(Qr x95 x96))) λa97=>(chk (g45.2.length<sizeLine) ((λa99=>(Rs.bind (Rs.ok a49) λa100=>(Rs.ok (a100,a99)))) (g45.2++[a97])))) else(Rs.ok (g45.1,g45.2)))) λg103=>(Rs.ok (g103.1,g103.2))))) λg105=>(Rs.ok (g105.1,g105.2)))))) λg106=>(Rs.ok (a39,g106.1,g106.2))))))))) λg109=>(Rs.bind (Rs.ok g109.2.2) λa111=>(chk (g15.2.length<sizeLine) ((λa113=>(Rs.ok (g109.1,a113))) (g15.2++[a111]))))))) else(Rs.ok (g15.1,g15.2)))) λg115=>(Rs.ok (g115.1,g115.2))))) λg116=>(Rs.ok g116.2)))))
noncomputable def Js (a_0:(List Int))(a_1:Int)(a_2:Int):Rs ((List (List Int))×(List (Int×Int))):=(Rs.bind (Rs.bind (Rs.bind (Rs.bind (Rs.ok a_2) λx4=>(Rs.bind (Rs.ok (1:Int)) λx5=>(Rs.ok (x4+x5)))) λx14=>(Rs.bind (Rs.bind (Rs.ok (5:Int)) λx12=>(Rs.bind (Rs.bind (Rs.ok (4:Int)) λx10=>(Rs.bind (Rs.bind (Rs.ok (3:Int)) λx8=>(Rs.bind (Rs.bind (Rs.ok (3:Int)) λx6=>(Rs.bind (Rs.ok []) λx7=>(Rs.ok (x6::x7)))) λx9=>(Rs.ok (x8::x9)))) λx11=>(Rs.ok (x10::x11)))) λx13=>(Rs.ok (x12::x13)))) λx15=>(Rs.ok (x14::x15)))) λx3=>(chk (x3.length<=sizeLine) (Rs.ok x3))) λa1=>(Rs.bind (Rs.bind (Rs.ok a_0) λx34=>(Rs.bind (Rs.ok a_1) λx35=>(Rs.bind (Rs.bind (Rs.ok a1) λx19=>(Rs.bind (Rs.bind (Rs.bind (Rs.bind (Rs.ok (80:Int)) λx30=>(Rs.bind (Rs.bind (Rs.ok (5:Int)) λx28=>(Rs.bind (Rs.bind (Rs.ok (2:Int)) λx26=>(Rs.bind (Rs.bind (Rs.ok (3:Int)) λx24=>(Rs.bind (Rs.ok []) λx25=>(Rs.ok (x24::x25)))) λx27=>(Rs.ok (x26::x27)))) λx29=>(Rs.ok (x28::x29)))) λx31=>(Rs.ok (x30::x31)))) λx23=>(chk (x23.length<=sizeLine) (Rs.ok x23))) λx21=>(Rs.bind (Rs.bind (Rs.ok (2:Int)) λx32=>(Rs.bind (Rs.ok a_2) λx33=>(Qr x32 x33))) λx22=>(G6 x21 x22))) λx20=>(DL x19 x20))) λx36=>(noE (KS x34 x35 x36))))) λa16=>(Rs.bind (Rs.ok []) λa37=>(Rs.bind (Rs.ok []) λa40=>(Rs.bind (Rs.ok (0:Int)) λa43=>(Rs.bind (Rs.bind (Rs.bind (Rs.ok a16) λx45=>(Rs.bind (Rs.ok (0:Int)) λx46=>(atR x45 x46))) λx47=>(Vu 0 x47)) λx152=>(Rs.bind (forN x152 (a43,a40,a37) (λg50 a52=>(Rs.bind (Rs.bind (Rs.bind (Rs.ok a16) λx60=>(Rs.bind (Rs.bind (Rs.bind (Rs.ok (8:Int)) λx56=>(Rs.bind (Rs.ok a52) λx57=>(Qr x56 x57))) λx58=>(Rs.bind (Rs.ok (8:Int)) λx59=>(Rs.ok (x58+x59)))) λx61=>(atR x60 x61))) λx75=>(Rs.bind (Rs.bind (Rs.bind (Rs.bind (Rs.ok (0:Int)) λx69=>(Rs.bind (Rs.bind (Rs.ok (1:Int)) λx67=>(Rs.bind (Rs.bind (Rs.bind (Rs.ok (10:Int)) λx63=>(Rs.bind (Rs.ok (9:Int)) λx64=>(Lg x63 x64))) λx65=>(Rs.bind (Rs.ok []) λx66=>(Rs.ok (x65::x66)))) λx68=>(Rs.ok (x67::x68)))) λx70=>(Rs.ok (x69::x70)))) λx62=>(chk (x62.length<=sizeLine) (Rs.ok x62))) λx73=>(Rs.bind (Rs.bind (Rs.ok a16) λx71=>(Rs.bind (Rs.ok (3:Int)) λx72=>(atR x71 x72))) λx74=>(atR x73 x74))) λx76=>(Qr x75 x76))) λa54=>(Rs.bind (Rs.bind (Rs.bind (Rs.ok g50.1) λx79=>(Rs.bind (Rs.ok (1:Int)) λx80=>(Rs.ok (x79+x80)))) λx81=>(Rs.bind (Rs.ok a54) λx82=>(Rs.ok (x81+x82)))) λa77=>(Rs.bind (Rs.ok a77) λa83=>(chk (g50.2.2.length<sizeLine) ((λa85=>(Rs.bind (Rs.bind (Rs.bind (Rs.ok (2:Int)) λx92=>(Rs.bind (Rs.bind (Rs.ok a16) λx90=>(Rs.bind (Rs.bind (Rs.bind (Rs.ok (8:Int)) λx86=>(Rs.bind (Rs.ok a52) λx87=>(Qr x86 x87))) λx88=>(Rs.bind (Rs.ok (7:Int)) λx89=>(Rs.ok (x88+x89)))) λx91=>(atR x90 x91))) λx93=>(Qr x92 x93))) λx94=>(Rs.bind (Rs.ok (1:Int)) λx95=>(Rs.ok (x94-x95)))) λx96=>(Rs.bind (Rs.ok a77) λx97=>(chk (g50.2.1.length<sizeLine) ((λa98=>(Rs.ok (a77,a98,a85))) (Uq g50.2.1 x97 x96)))))) (g50.2.2++[a83])))))))) λg100=>(Rs.bind (Rs.bind (Rs.bind (Rs.bind (Rs.ok a16) λx102=>(Rs.bind (Rs.ok (2:Int)) λx103=>(atR x102 x103))) λx104=>(Rs.bind (Rs.ok (2:Int)) λx105=>(Rs.ok (decide (x104<x105))))) λx106=>(if x106=true then(Rs.bind (Rs.bind (Rs.bind (Rs.ok g100.2.2) λx114=>(Rs.bind (Rs.ok a16) λx115=>(noE (J1 x114 x115)))) λx120=>(Rs.bind (Rs.ok g100.2.1) λx121=>(Rs.bind (Rs.ok a16) λx122=>(Rs.bind (Rs.bind (Rs.ok (2:Int)) λx118=>(Rs.bind (Rs.bind (Rs.ok a16) λx116=>(Rs.bind (Rs.ok (4:Int)) λx117=>(atR x116 x117))) λx119=>(Rs.ok (x118+x119)))) λx123=>(noE (Qb x120 x121 x122 x123)))))) λa109=>(Rs.ok (a109))) else(Rs.bind (Rs.bind (Rs.bind (Rs.ok a16) λx126=>(Rs.bind (Rs.ok (1:Int)) λx127=>(atR x126 x127))) λx131=>(Rs.bind (Rs.bind (Rs.bind (Rs.ok g100.2.2) λx128=>(Rs.ok (x128.length:Int))) λx129=>(Rs.bind (Rs.ok (1:Int)) λx130=>(Rs.ok (min x129 x130)))) λx132=>(Rs.ok (max x131 x132)))) λa124=>(Rs.bind (Rs.bind (Rs.ok g100.2.2) λx137=>(Rs.bind (Rs.ok a16) λx138=>(Rs.bind (Rs.ok a124) λx139=>(noE (DF x137 x138 x139))))) λa133=>(Rs.ok (a133)))))) λg141=>(Rs.bind (Rs.ok g141) λx150=>(Rs.bind (Rs.bind (Rs.ok g100.2.2) λx145=>(JP x145 (λa143=>(Rs.bind (Rs.ok a143) λx148=>(Rs.bind (Rs.bind (Rs.ok g100.2.1) λx146=>(Rs.bind (Rs.ok a143) λx147=>(UC x146 x147))) λx149=>(Rs.ok (x148,x149))))))) λx151=>(Rs.ok (x150,x151))))))))))))
noncomputable def Q7 (a_0:((List (List Int))×(List (Int×Int)))):Rs ((List (List Int))×(List (Int×Int))):=(Rs.bind (Rs.bind (Rs.bind (Rs.ok a_0) λx1=>(Rs.ok x1.1)) λx5=>(JP x5 (λa3=>(Rs.bind (Rs.ok a3) λx6=>(Rs.ok x6))))) λx9=>(Rs.bind (Rs.bind (Rs.bind (Rs.ok a_0) λx8=>(Rs.ok x8.2)) λx7=>(Rs.ok x7)) λx10=>(Rs.ok (x9,x10))))
noncomputable def Qa (a_0:Int):Rs Bool:=(IE (Rs.bind (Rs.ok a_0) λx1=>(Rs.ok true)) (Rs.bind (Rs.bind (Rs.ok a_0) λx2=>(Rs.ok false)) λx3=>(Rs.ok (!x3))))
noncomputable def QQ (a_0:(List (List Int))):Rs (List (List Int)):=(Rs.bind (Rs.ok []) λa1=>(Rs.bind (Rs.ok (0:Int)) λa4=>(Rs.bind (Rs.ok a_0) λx94=>(Rs.bind (forN x94 (a4,a1) (λg8 a10=>(Rs.bind (Rs.ok g8.1) λa12=>(Rs.bind (Rs.ok g8.1) λa14=>(Rs.bind (Rs.bind (Rs.ok (1:Int)) λx18=>(Rs.ok (-x18))) λa16=>(Rs.bind (Rs.bind (Rs.bind (Rs.ok a10) λx19=>(Rs.ok (x19.length:Int))) λx20=>(Vu 0 x20)) λx91=>(Rs.bind (forN x91 (a16) (λg23 a25=>(Rs.bind (Rs.bind (Rs.bind (Rs.bind (Rs.ok a10) λx27=>(Rs.bind (Rs.ok a25) λx28=>(atR x27 x28))) λx29=>(Rs.bind (Rs.ok (0:Int)) λx30=>(Rs.ok (decide (x29<x30))))) λx31=>(if x31=true then(Rs.bind (Rs.ok a25) λa34=>(Rs.ok (a34))) else(Rs.ok (g23)))) λg37=>(Rs.ok (g37))))) λg38=>(Rs.bind (Rs.bind (Rs.bind (Rs.bind (Rs.ok a12) λx46=>(Rs.bind (Rs.ok []) λx47=>(Rs.ok (x46::x47)))) λx45=>(chk (x45.length<=sizeLine) (Rs.ok x45))) λx43=>(Rs.bind (Rs.bind (Rs.bind (Rs.ok a10) λx48=>(Rs.ok (x48.length:Int))) λx49=>(Rs.bind (Rs.ok (1:Int)) λx50=>(Rs.ok (max x49 x50)))) λx44=>(G6 x43 x44))) λa40=>(Rs.bind (Rs.bind (Rs.bind (Rs.ok g38) λx51=>(Rs.bind (Rs.ok (1:Int)) λx52=>(Rs.ok (x51+x52)))) λx53=>(Vu 0 x53)) λx90=>(Rs.bind (forN x90 (a40,g8.1,a14) (λg56 a58=>(Rs.bind (Rs.ok g56.2.2) λx60=>(Rs.bind (Rs.ok a58) λx61=>(Rs.bind (QO g56.1 x61 x60) λa62=>(Rs.bind (Rs.bind (IE (Rs.bind (Rs.bind (Rs.ok a10) λx64=>(Rs.bind (Rs.ok a58) λx65=>(atR x64 x65))) λx66=>(Rs.bind (Rs.ok (0:Int)) λx67=>(Rs.ok (decide (x66<x67))))) (Rs.bind (Rs.ok a58) λx68=>(Rs.bind (Rs.ok g38) λx69=>(Rs.ok (decide (x68<x69)))))) λx70=>(if x70=true then(Rs.bind (Rs.bind (Rs.ok g56.2.1) λx75=>(Rs.bind (Rs.ok (1:Int)) λx76=>(Rs.ok (x75+x76)))) λa73=>(Rs.bind (Rs.ok a73) λa77=>(Rs.ok (a73,a77)))) else(Rs.ok (g56.2.1,g56.2.2)))) λg80=>(Rs.ok (a62,g80.1,g80.2)))))))) λg81=>(Rs.bind (Rs.bind (Rs.ok g81.2.1) λx85=>(Rs.bind (Rs.ok (1:Int)) λx86=>(Rs.ok (x85+x86)))) λa83=>(Rs.bind (Rs.ok g81.1) λa87=>(chk (g8.2.length<sizeLine) ((λa89=>(Rs.ok (a83,a89))) (g8.2++[a87]))))))))))))))) λg92=>(Rs.ok g92.2)))))
noncomputable def Qj (a_0:(List (List Int)))(a_1:Int):Rs (Int×Int):=(Rs.bind (Rs.bind (Rs.bind (Rs.ok a_0) λx1=>(Rs.ok (x1.length:Int))) λx2=>(Vu 0 x2)) λx28=>(Rs.bind (forC x28 () (λg5 a7=>(Rs.bind (Rs.bind (Rs.ok a_1) λx11=>(Rs.bind (Rs.bind (Rs.ok a_0) λx9=>(Rs.bind (Rs.ok a7) λx10=>(atR x9 x10))) λx12=>(Rs.ok (decide (x11∈x12))))) λx13=>(if x13=true then(Rs.bind (Rs.bind (Rs.ok a7) λx18=>(Rs.bind (Rs.bind (Rs.bind (Rs.ok a_0) λx14=>(Rs.bind (Rs.ok a7) λx15=>(atR x14 x15))) λx16=>(Rs.bind (Rs.ok a_1) λx17=>(Hr x16 x17))) λx19=>(Rs.ok (x18,x19)))) λx21=>(Rs.ok (Ctl.ret x21))) else(Rs.bind (Rs.ok ()) λx20=>(Rs.ok (Ctl.nx x20))))))) (Q4 λg22=>(Rs.bind (Rs.bind (Rs.ok (1:Int)) λx24=>(Rs.ok (-x24))) λx26=>(Rs.bind (Rs.bind (Rs.ok (1:Int)) λx25=>(Rs.ok (-x25))) λx27=>(Rs.ok (x26,x27)))))))
noncomputable def ZW (a_0:((List (List Int))×(List (Int×Int)))):Rs (List (Int×Int×Int×Int×Int)):=(Rs.bind (Rs.ok a_0) λa1=>(Rs.bind (Rs.bind (Rs.ok a1.1) λx7=>(noE (QQ x7))) λa4=>(Rs.bind (Rs.ok []) λa8=>(Rs.bind (Rs.ok a1.2) λx61=>(Rs.bind (forN x61 (a8) (λg13 a15=>(Rs.bind (Rs.bind (Rs.ok a1.1) λx18=>(Rs.bind (Rs.ok a15.1) λx19=>(noE (Qj x18 x19)))) λa20=>(Rs.bind (Rs.bind (Rs.ok a1.1) λx25=>(Rs.bind (Rs.bind (Rs.ok a15.1) λx24=>(Rs.ok (-x24))) λx26=>(noE (Qj x25 x26)))) λa27=>(Rs.bind (Rs.bind (Rs.bind (Rs.ok a27.2) λx32=>(Rs.bind (Rs.ok (1:Int)) λx33=>(Rs.ok (x32+x33)))) λx37=>(Rs.bind (Rs.bind (Rs.bind (Rs.ok a1.1) λx34=>(Rs.bind (Rs.ok a27.1) λx35=>(atR x34 x35))) λx36=>(Rs.ok (x36.length:Int))) λx38=>(Z2 x37 x38))) λa30=>(Rs.bind (Rs.bind (Rs.ok a15.1) λx51=>(Rs.bind (Rs.ok a15.2) λx52=>(Rs.bind (Rs.bind (Rs.bind (Rs.ok a4) λx39=>(Rs.bind (Rs.ok a20.1) λx40=>(atR x39 x40))) λx41=>(Rs.bind (Rs.ok a20.2) λx42=>(atR x41 x42))) λx53=>(Rs.bind (Rs.bind (Rs.bind (Rs.ok a4) λx43=>(Rs.bind (Rs.ok a27.1) λx44=>(atR x43 x44))) λx45=>(Rs.bind (Rs.ok a27.2) λx46=>(atR x45 x46))) λx54=>(Rs.bind (Rs.bind (Rs.bind (Rs.ok a4) λx47=>(Rs.bind (Rs.ok a27.1) λx48=>(atR x47 x48))) λx49=>(Rs.bind (Rs.ok a30) λx50=>(atR x49 x50))) λx55=>(Rs.ok (x51,x52,x53,x54,x55))))))) λa56=>(chk (g13.length<sizeLine) ((λa58=>(Rs.ok (a58))) (g13++[a56]))))))))) λg59=>(Rs.ok g59))))))
noncomputable def Qk (a_0:((List (List Int))×(List (Int×Int)))):Rs Int:=(Rs.bind (Rs.bind (Rs.bind (Rs.ok a_0) λx3=>(Rs.ok x3.2)) λx4=>(Rs.ok (x4.length:Int))) λa1=>(Rs.bind (Rs.bind (Rs.ok a_0) λx5=>(Rs.ok x5.1)) λx32=>(Rs.bind (forN x32 (a1) (λg8 a10=>(Rs.bind (Rs.bind (Rs.bind (Rs.bind (Rs.bind (Rs.ok a10) λx15=>(ES x15 (λa13=>(Rs.bind (Rs.ok a13) λx16=>(Rs.bind (Rs.ok (0:Int)) λx17=>(Rs.ok (decide (x16<x17)))))) (λa13=>(Rs.ok a13)))) λx18=>(Rs.ok (x18.length:Int))) λx19=>(Rs.bind (Rs.ok (0:Int)) λx20=>(Rs.ok (decide (x19=x20))))) λx21=>(if x21=true then(Rs.bind (Rs.bind (Rs.ok g8) λx26=>(Rs.bind (Rs.ok (1:Int)) λx27=>(Rs.ok (x26+x27)))) λa24=>(Rs.ok (a24))) else(Rs.ok (g8)))) λg29=>(Rs.ok (g29))))) λg30=>(Rs.ok g30))))
noncomputable def Y7 (a_0:((List (List Int))×(List (Int×Int))))(a_1:Int)(a_2:Int):Rs (List (List Int)):=(Rs.bind (Rs.ok []) λa1=>(Rs.bind (Rs.bind (Rs.ok a_0) λx5=>(noE (ZW x5))) λx74=>(Rs.bind (forN x74 (a1) (λg8 a10=>(Rs.bind (Rs.ok a10.2.2.2.1) λa12=>(Rs.bind (Rs.ok a10.2.2.2.2) λa13=>(Rs.bind (Rs.bind (Rs.bind (Rs.ok a10.2.1) λx16=>(Rs.bind (Rs.ok (0:Int)) λx17=>(Rs.ok (decide (x16<x17))))) λx18=>(if x18=true then(Rs.bind (Rs.ok a10.2.2.2.2) λa21=>(Rs.bind (Rs.ok a10.2.2.2.1) λa22=>(Rs.ok (a21,a22)))) else(Rs.ok (a12,a13)))) λg26=>(Rs.bind (Rs.bind (Rs.bind (Rs.bind (Rs.ok (0:Int)) λx33=>(Rs.bind (Rs.ok []) λx34=>(Rs.ok (x33::x34)))) λx32=>(chk (x32.length<=sizeLine) (Rs.ok x32))) λx30=>(Rs.bind (Rs.bind (Rs.ok a_0) λx36=>(noE (Qk x36))) λx31=>(G6 x30 x31))) λa27=>(Rs.bind (Rs.bind (Rs.bind (Rs.ok a27) λx37=>(Rs.bind (Rs.ok g26.1) λx38=>(atR x37 x38))) λx39=>(Rs.bind (Rs.ok a_2) λx40=>(Rs.ok (x39+x40)))) λx41=>(Rs.bind (Rs.ok g26.1) λx42=>(Rs.bind (QO a27 x42 x41) λa43=>(Rs.bind (Rs.bind (Rs.bind (Rs.bind (Rs.ok a43) λx45=>(Rs.bind (Rs.ok a10.2.2.1) λx46=>(atR x45 x46))) λx47=>(Rs.bind (Rs.ok (1:Int)) λx48=>(Rs.ok (x47+x48)))) λx49=>(Rs.bind (Rs.ok a_2) λx50=>(Rs.ok (x49-x50)))) λx51=>(Rs.bind (Rs.ok a10.2.2.1) λx52=>(Rs.bind (QO a43 x52 x51) λa53=>(Rs.bind (Rs.bind (Rs.bind (Rs.ok a53) λx55=>(Rs.bind (Rs.ok g26.2) λx56=>(atR x55 x56))) λx57=>(Rs.bind (Rs.ok (1:Int)) λx58=>(Rs.ok (x57-x58)))) λx59=>(Rs.bind (Rs.ok g26.2) λx60=>(Rs.bind (QO a53 x60 x59) λa61=>(Rs.bind (Rs.bind (Rs.ok a61) λx66=>(JP x66 (λa64=>(Rs.bind (Rs.ok a64) λx67=>(Rs.bind (Rs.ok a_1) λx68=>(Z2 x67 x68)))))) λa69=>(chk (g8.length<sizeLine) ((λa71=>(Rs.ok (a71))) (g8++[a69]))))))))))))))))))) λg72=>(Rs.ok g72))))
noncomputable def DT (a_0:(List Int))(a_1:(List Int)):Rs Int:=(Rs.bind (Rs.bind (Rs.bind (Rs.bind (Rs.ok a_0) λx2=>(Rs.ok (x2.length:Int))) λx3=>(Vu 0 x3)) λx7=>(JP x7 (λa5=>(Rs.bind (Rs.bind (Rs.ok a_0) λx8=>(Rs.bind (Rs.ok a5) λx9=>(atR x8 x9))) λx12=>(Rs.bind (Rs.bind (Rs.ok a_1) λx10=>(Rs.bind (Rs.ok a5) λx11=>(atR x10 x11))) λx13=>(Qr x12 x13)))))) λx14=>(Rs.ok (x14.sum)))
noncomputable def U1 (a_0:(List (List Int)))(a_1:(List Int))(a_2:Int):Rs Bool:=(Rs.bind (Rs.ok a_0) λx19=>(Rs.bind (forC x19 () (λg3 a5=>(Rs.bind (Rs.bind (Rs.bind (Rs.bind (Rs.ok a5) λx8=>(Rs.bind (Rs.ok a_1) λx9=>(noE (DT x8 x9)))) λx10=>(Rs.bind (Rs.ok a_2) λx11=>(Z2 x10 x11))) λx12=>(Rs.bind (Rs.ok (0:Int)) λx13=>(Rs.ok (!(decide (x12=x13)))))) λx14=>(if x14=true then(Rs.bind (Rs.ok false) λx16=>(Rs.ok (Ctl.ret x16))) else(Rs.bind (Rs.ok ()) λx15=>(Rs.ok (Ctl.nx x15))))))) (Q4 λg17=>(Rs.ok true))))
noncomputable def Ji (a_0:(List (List Int)))(a_1:Int)(a_2:Int):Rs Int:=(Rs.bind (Rs.bind (Rs.bind (Rs.ok []) λx4=>(Rs.bind (Rs.ok []) λx5=>(Rs.ok (x4::x5)))) λx3=>(chk (x3.length<=sizeLine) (Rs.ok x3))) λa1=>(Rs.bind (Rs.bind (Rs.ok a_1) λx6=>(Vu 0 x6)) λx59=>(Rs.bind (forN x59 (a1) (λg9 a11=>(Rs.bind (Rs.ok []) λa13=>(Rs.bind (Rs.ok g9) λx46=>(Rs.bind (forN x46 (a13) (λg18 a20=>(Rs.bind (Rs.bind (Rs.ok a_2) λx22=>(Vu 0 x22)) λx39=>(Rs.bind (forN x39 (g18) (λg25 a27=>(Rs.bind (Rs.bind (Rs.ok a20) λx29=>(Rs.bind (Rs.bind (Rs.bind (Rs.ok a27) λx32=>(Rs.bind (Rs.ok []) λx33=>(Rs.ok (x32::x33)))) λx31=>(chk (x31.length<=sizeLine) (Rs.ok x31))) λx30=>(DL x29 x30))) λa34=>(chk (g25.length<sizeLine) ((λa36=>(Rs.ok (a36))) (g25++[a34])))))) λg37=>(Rs.ok (g37)))))) λg40=>(Rs.bind (Rs.ok g40) λa44=>(Rs.ok (a44)))))))) λg47=>(Rs.bind (Rs.bind (Rs.ok g47) λx53=>(ES x53 (λa51=>(Rs.bind (Rs.ok a_0) λx55=>(Rs.bind (Rs.ok a51) λx56=>(Rs.bind (Rs.ok a_2) λx57=>(noE (U1 x55 x56 x57)))))) (λa51=>(Rs.ok a51)))) λx58=>(Rs.ok (x58.length:Int))))))
noncomputable def Jc (a_0:Int)(a_1:Int):Rs Int:=(Rs.bind (Rs.ok (1:Int)) λa1=>(Rs.bind (Rs.bind (Rs.ok a_1) λx3=>(Vu 0 x3)) λx16=>(Rs.bind (forN x16 (a1) (λg6 a8=>(Rs.bind (Rs.bind (Rs.ok g6) λx12=>(Rs.bind (Rs.ok a_0) λx13=>(Qr x12 x13))) λa10=>(Rs.ok (a10))))) λg14=>(Rs.ok g14))))
noncomputable def ZJ (a_0:((List (List Int))×(List (Int×Int))))(a_1:Int)(a_2:Int)(a_3:Int):Rs Bool:=(Rs.bind (Rs.bind (Rs.ok a_1) λx4=>(Rs.bind (Rs.ok a_2) λx5=>(noE (QN x4 x5)))) λa1=>(Rs.bind (Rs.bind (Rs.bind (Rs.bind (Rs.ok a_0) λx8=>(noE (Q7 x8))) λx9=>(Rs.bind (Rs.ok a1) λx10=>(noE (UP x9 x10)))) λx11=>(Rs.bind (Rs.ok a_3) λx12=>(Rs.ok (!(decide (x11=x12)))))) λx13=>(if x13=true then(Rs.ok false) else(Rs.bind (Rs.bind (Rs.bind (Rs.ok a_0) λx16=>(noE (Q7 x16))) λx17=>(Rs.bind (Rs.ok a1) λx18=>(noE (Yv x17 x18)))) λx38=>(Rs.bind (forC x38 () (λg21 a23=>(Rs.bind (Rs.bind (Rs.bind (Rs.bind (Rs.ok a_0) λx27=>(noE (Q7 x27))) λx28=>(Rs.bind (Rs.ok a_1) λx29=>(Rs.bind (Rs.ok a_2) λx30=>(Rs.bind (Rs.ok a23) λx31=>(noE (Vb x28 x29 x30 x31)))))) λx32=>(Rs.ok (!(x32==true)))) λx33=>(if x33=true then(Rs.bind (Rs.ok false) λx35=>(Rs.ok (Ctl.ret x35))) else(Rs.bind (Rs.ok ()) λx34=>(Rs.ok (Ctl.nx x34))))))) (Q4 λg36=>(Rs.ok true)))))))
noncomputable def QC (a_0:((List (List Int))×(List (Int×Int))))(a_1:Int)(a_2:Int):Rs Bool:=(Rs.bind (Rs.bind (Rs.ok a_0) λx4=>(noE (Q7 x4))) λa1=>(Rs.bind (Rs.bind (Rs.ok a1) λx8=>(Rs.bind (Rs.ok a_1) λx9=>(Rs.bind (Rs.ok a_2) λx10=>(noE (YI x8 x9 x10))))) λa5=>(Rs.bind (Rs.bind (Rs.bind (Rs.ok a1) λx14=>(Rs.bind (Rs.ok a_1) λx15=>(Rs.bind (Rs.ok a_2) λx16=>(noE (Z0 x14 x15 x16))))) λx17=>(Rs.ok x17.1)) λa11=>(Rs.bind (Rs.bind (Rs.ok a1) λx18=>(Rs.bind (Rs.ok a_0) λx19=>(Rs.ok (!(decide (x18=x19)))))) λx20=>(if x20=true then(Rs.ok false) else(Rs.bind (orR (Rs.bind (Rs.bind (Rs.ok a5) λx22=>(noE (Qa x22))) λx23=>(Rs.ok (!x23))) (Rs.bind (Rs.ok a5) λx28=>(Rs.bind (Rs.bind (Rs.ok a_1) λx26=>(Rs.bind (Rs.bind (Rs.ok a11) λx25=>(Rs.ok (x25.length:Int))) λx27=>(noE (Jc x26 x27)))) λx29=>(Rs.ok (!(decide (x28=x29))))))) λx30=>(if x30=true then(Rs.ok false) else(Rs.bind (Rs.bind (Rs.ok a_0) λx34=>(noE (Qk x34))) λa31=>(Rs.bind (Rs.bind (Rs.ok a_1) λx38=>(Rs.bind (Rs.ok a31) λx39=>(noE (Jc x38 x39)))) λa35=>(Rs.bind (Rs.bind (Rs.ok a_0) λx43=>(Rs.bind (Rs.ok a_1) λx44=>(Rs.bind (Rs.ok a_2) λx45=>(noE (Y7 x43 x44 x45))))) λa40=>(Rs.bind (IE (Rs.bind (Rs.ok a35) λx46=>(Rs.bind (Rs.ok (800:Int)) λx47=>(Rs.ok (decide (x46<=x47))))) (Rs.bind (Rs.ok a5) λx52=>(Rs.bind (Rs.bind (Rs.ok a40) λx49=>(Rs.bind (Rs.ok a31) λx50=>(Rs.bind (Rs.ok a_1) λx51=>(noE (Ji x49 x50 x51))))) λx53=>(Rs.ok (!(decide (x52=x53))))))) λx54=>(if x54=true then(Rs.ok false) else(Rs.bind (Rs.bind (Rs.ok a35) λx55=>(Rs.bind (Rs.ok (2500:Int)) λx56=>(Rs.ok (decide (x56<x55))))) λx57=>(if x57=true then(Rs.ok true) else(Rs.bind (Rs.ok a_0) λx59=>(Rs.bind (Rs.ok a_1) λx60=>(Rs.bind (Rs.ok a_2) λx61=>(Rs.bind (Rs.ok a5) λx62=>(noE (ZJ x59 x60 x61 x62))))))))))))))))))))
noncomputable def Fv (a_0:(List Int)):Rs Bool:=(Rs.bind (Rs.bind (Rs.ok a_0) λx4=>(Rs.bind (Rs.ok (0:Int)) λx5=>(Rs.bind (Rs.ok (6:Int)) λx6=>(noE (Js x4 x5 x6))))) λa1=>(Rs.bind (Rs.bind (Rs.ok a_0) λx17=>(Rs.bind (Rs.ok (1:Int)) λx18=>(Rs.bind (Rs.bind (Rs.bind (Rs.ok (9:Int)) λx15=>(Rs.bind (Rs.bind (Rs.ok (22:Int)) λx13=>(Rs.bind (Rs.bind (Rs.ok (5:Int)) λx11=>(Rs.bind (Rs.ok []) λx12=>(Rs.ok (x11::x12)))) λx14=>(Rs.ok (x13::x14)))) λx16=>(Rs.ok (x15::x16)))) λx10=>(chk (x10.length<=sizeLine) (Rs.ok x10))) λx19=>(noE (KS x17 x18 x19))))) λa7=>(Rs.bind (Rs.bind (Rs.bind (Rs.bind (Rs.ok (2:Int)) λx39=>(Rs.bind (Rs.bind (Rs.ok (3:Int)) λx37=>(Rs.bind (Rs.bind (Rs.ok (5:Int)) λx35=>(Rs.bind (Rs.bind (Rs.ok (3:Int)) λx33=>(Rs.bind (Rs.bind (Rs.ok (5:Int)) λx31=>(Rs.bind (Rs.bind (Rs.ok (7:Int)) λx29=>(Rs.bind (Rs.bind (Rs.ok (11:Int)) λx27=>(Rs.bind (Rs.bind (Rs.ok (13:Int)) λx25=>(Rs.bind (Rs.bind (Rs.ok (23:Int)) λx23=>(Rs.bind (Rs.ok []) λx24=>(Rs.ok (x23::x24)))) λx26=>(Rs.ok (x25::x26)))) λx28=>(Rs.ok (x27::x28)))) λx30=>(Rs.ok (x29::x30)))) λx32=>(Rs.ok (x31::x32)))) λx34=>(Rs.ok (x33::x34)))) λx36=>(Rs.ok (x35::x36)))) λx38=>(Rs.ok (x37::x38)))) λx40=>(Rs.ok (x39::x40)))) λx22=>(chk (x22.length<=sizeLine) (Rs.ok x22))) λx43=>(Rs.bind (Rs.bind (Rs.ok a7) λx41=>(Rs.bind (Rs.ok (0:Int)) λx42=>(atR x41 x42))) λx44=>(atR x43 x44))) λa20=>(Rs.bind (Rs.bind (Rs.ok (1:Int)) λx55=>(Rs.bind (Rs.bind (Rs.bind (Rs.ok a7) λx47=>(Rs.bind (Rs.ok (1:Int)) λx48=>(atR x47 x48))) λx53=>(Rs.bind (Rs.bind (Rs.ok (1:Int)) λx51=>(Rs.bind (Rs.bind (Rs.ok a20) λx49=>(Rs.bind (Rs.ok (1:Int)) λx50=>(Rs.ok (x49-x50)))) λx52=>(Rs.ok (max x51 x52)))) λx54=>(Z2 x53 x54))) λx56=>(Rs.ok (x55+x56)))) λa45=>(Rs.bind (Rs.bind (Rs.ok a45) λx79=>(Rs.bind (Rs.bind (Rs.ok a20) λx77=>(Rs.bind (Rs.bind (Rs.bind (Rs.bind (Rs.ok (0:Int)) λx71=>(Rs.bind (Rs.bind (Rs.ok (0:Int)) λx69=>(Rs.bind (Rs.bind (Rs.bind (Rs.ok (3:Int)) λx60=>(Rs.ok (-x60))) λx67=>(Rs.bind (Rs.bind (Rs.ok (1:Int)) λx65=>(Rs.bind (Rs.bind (Rs.bind (Rs.ok (10:Int)) λx61=>(Rs.bind (Rs.ok (50:Int)) λx62=>(Lg x61 x62))) λx63=>(Rs.bind (Rs.ok []) λx64=>(Rs.ok (x63::x64)))) λx66=>(Rs.ok (x65::x66)))) λx68=>(Rs.ok (x67::x68)))) λx70=>(Rs.ok (x69::x70)))) λx72=>(Rs.ok (x71::x72)))) λx59=>(chk (x59.length<=sizeLine) (Rs.ok x59))) λx75=>(Rs.bind (Rs.bind (Rs.ok a7) λx73=>(Rs.bind (Rs.ok (2:Int)) λx74=>(atR x73 x74))) λx76=>(atR x75 x76))) λx78=>(Qr x77 x78))) λx80=>(Rs.ok (x79+x80)))) λa57=>(Rs.bind (Rs.bind (Rs.bind (Rs.ok a1) λx83=>(Rs.ok x83.1)) λx92=>(Rs.bind (Rs.bind (Rs.bind (Rs.ok a1) λx84=>(Rs.ok x84.2)) λx88=>(JP x88 (λa86=>(Rs.bind (Rs.ok a86.1) λx90=>(Rs.bind (Rs.bind (Rs.ok a86.2) λx89=>(Rs.ok (-x89))) λx91=>(Rs.ok (x90,x91))))))) λx93=>(Rs.ok (x92,x93)))) λa81=>(Rs.bind (Rs.bind (Rs.bind (Rs.ok a1) λx95=>(Rs.bind (Rs.ok a20) λx96=>(Rs.bind (Rs.ok a57) λx97=>(noE (QC x95 x96 x97))))) λx98=>(Rs.ok (!x98))) λx99=>(if x99=true then(Rs.ok false) else(Rs.bind (Rs.bind (Rs.bind (Rs.ok a81) λx101=>(Rs.bind (Rs.ok a20) λx102=>(Rs.bind (Rs.ok a57) λx103=>(noE (QC x101 x102 x103))))) λx104=>(Rs.ok (!x104))) λx105=>(if x105=true then(Rs.ok false) else(Rs.bind (Rs.ok a1) λx107=>(Rs.bind (Rs.ok a20) λx108=>(Rs.bind (Rs.ok a57) λx109=>(noE (QC x107 x108 x109)))))))))))))))
end My
namespace L2
open PySem
section
variable {α β γ ρ:Type}
theorem Rs.okb (a:α)(f:α->Rs β):(Rs.ok a).bind f=f a:=(Eq.refl (f a)).symm.symm
theorem EQ {f:α->Rs β}{h:α->β}:∀{as:List α},(∀a∈as,f a= .ok (h a))->Cm as f= .ok (as.map h)
 | [],_=>rfl
 |a::as,hf=>by
  show(f a).bind _=_
  rw[hf a (by simp),Rs.ok_bind,EQ λb hb=>hf b (by simp[hb])];rfl
theorem YM {f:α->Rs β}{h:α->β}{as:List α}(hl:as.length<=sizeLine)(hf:∀a∈as,f a= .ok (h a)):JP as f= .ok (as.map h):=by
 unfold JP;rw[XD hl];exact EQ hf
theorem Ba {c:α->Rs Bool}{f:α->Rs β}{p:α->Bool}{h:α->β}:∀{as:List α},(∀a∈as,c a= .ok (p a))->(∀a∈as,p a=true->f a= .ok (h a))->FG as c f= .ok ((as.filter p).map h)
 | [],_,_=>rfl
 |a::as,hc,hf=>by
  show(c a).bind _=_
  rw[hc a (by simp),Rs.ok_bind]
  have ih:=Ba (as:=as) (λb hb=>hc b (by simp[hb])) λb hb=>hf b (by simp[hb])
  cases hp:p a with
  |false=>rw[if_neg (by simp),ih,List.filter_cons,hp];rfl
  |true=>rw[if_pos rfl,hf a (by simp) hp,Rs.ok_bind,ih,List.filter_cons,hp];rfl
theorem JT {c:α->Rs Bool}{f:α->Rs β}{p:α->Bool}{h:α->β}{as:List α}(hl:as.length<=sizeLine)(hc:∀a∈as,c a= .ok (p a))(hf:∀a∈as,p a=true->f a= .ok (h a)):ES as c f= .ok ((as.filter p).map h):=by
 unfold ES;rw[XD hl];exact Ba hc hf
theorem Bt {f:γ->α->Rs γ}{h:γ->α->γ}:∀{as:List α}{g:γ},(∀g,∀a∈as,f g a= .ok (h g a))->forN as g f= .ok (as.foldl h g)
 | [],_,_=>rfl
 |a::as,g,hf=>by
  show(f g a).bind _=_
  rw[hf g a (by simp),Rs.ok_bind]
  exact Bt λg b hb=>hf g b (by simp[hb])
theorem KN {f:γ->α->Rs γ}(P:Nat->γ->Prop):∀(as:List α) (k:Nat) (g:γ),P k g->(∀i a g,as[i]?=some a->P (k+i) g->∃g',f g a= .ok g'/\P (k+i+1) g')->∃g',forN as g f= .ok g'/\P (k+as.length) g'
 | [],k,g,h0,_=>⟨g,rfl,h0⟩
 |a::as,k,g,h0,hs=>by
  obtain⟨g1,e1,p1⟩:=hs 0 a g rfl h0
  obtain⟨g2,e2,p2⟩:=KN P as (k+1) g1 p1 λi b g hb hp=>by
   obtain⟨g',e',p'⟩:=hs (i+1) b g (by simpa using hb) (by rw[show k+(i+1)=k+1+i by omega];exact hp)
   exact⟨g',e',by rw[show k+1+i+1=k+(i+1)+1 by omega];exact p'⟩
  refine⟨g2,?_,by rw[List.length_cons,show k+(as.length+1)=k+1+as.length by omega];exact p2⟩
  show(f g a).bind _=_
  rw[e1,Rs.ok_bind];exact e2
theorem U7 {f:γ->α->Rs γ}(P:Nat->γ->Prop){as:List α}{g:γ}(h0:P 0 g)(hs:∀i a g,as[i]?=some a->P i g->∃g',f g a= .ok g'/\P (i+1) g'):∃g',forN as g f= .ok g'/\P as.length g':=by
 have:=KN P as 0 g h0 (by simpa using hs)
 simpa using this
theorem ZU {f:List β->α->Rs (List β)}{h:α->β}:∀{as:List α}{g:List β},g.length+as.length<=sizeLine->(∀g:List β,g.length<sizeLine->∀a∈as,f g a= .ok (g++[h a]))->forN as g f= .ok (g++as.map h)
 | [],g,_,_=>by simp[forN]
 |a::as,g,hl,hf=>by
  show(f g a).bind _=_
  rw[List.length_cons] at hl
  rw[hf g (by omega) a (by simp),Rs.ok_bind,ZU (by simp;omega) λg hg b hb=>hf g hg b (by simp[hb])]
  simp
theorem Fy {f:γ->α->Rs (Ctl ρ γ)}:∀{as:List α}{g:γ},(∀a∈as,f g a= .ok (.nx g))->forC as g f= .ok (.nx g)
 | [],_,_=>rfl
 |a::as,g,hf=>by
  show(f g a).bind _=_
  rw[hf a (by simp),Rs.ok_bind]
  exact Fy λb hb=>hf b (by simp[hb])
theorem Go {f:γ->α->Rs (Ctl ρ γ)}(P:Nat->γ->Prop):∀(as:List α) (k:Nat) (g:γ),P k g->(∀i a g,as[i]?=some a->P (k+i) g->∃g',f g a= .ok (.nx g')/\P (k+i+1) g')->∃g',forC as g f= .ok (.nx g')/\P (k+as.length) g'
 | [],k,g,h0,_=>⟨g,rfl,h0⟩
 |a::as,k,g,h0,hs=>by
  obtain⟨g1,e1,p1⟩:=hs 0 a g rfl h0
  obtain⟨g2,e2,p2⟩:=Go P as (k+1) g1 p1 λi b g hb hp=>by
   obtain⟨g',e',p'⟩:=hs (i+1) b g (by simpa using hb) (by rw[show k+(i+1)=k+1+i by omega];exact hp)
   exact⟨g',e',by rw[show k+1+i+1=k+(i+1)+1 by omega];exact p'⟩
  refine⟨g2,?_,by rw[List.length_cons,show k+(as.length+1)=k+1+as.length by omega];exact p2⟩
  show(f g a).bind _=_
  rw[e1,Rs.ok_bind];exact e2
theorem Hn {f:γ->α->Rs (Ctl ρ γ)}(P:Nat->γ->Prop){as:List α}{g:γ}(h0:P 0 g)(hs:∀i a g,as[i]?=some a->P i g->∃g',f g a= .ok (.nx g')/\P (i+1) g'):∃g',forC as g f= .ok (.nx g')/\P as.length g':=by
 have:=Go P as 0 g h0 (by simpa using hs)
 simpa using this
theorem Yg {a b:Int}(h:0<b):Z2 a b= .ok (a % b):=XD h
theorem YK {a b:Int}(h1: -(2^64)<a)(h2:a<2^64):Qr a b= .ok (a*b):=XD (.inl ⟨h1,h2⟩)
theorem Z5 {a b:Int}(h1: -(2^64)<b)(h2:b<2^64):Qr a b= .ok (a*b):=XD (.inr ⟨h1,h2⟩)
theorem Io {a b:Int}(h:0<b)(h2:b<2^250):Nk a b= .ok (a/b):=XD ⟨h,by
 have h3:b.natAbs<2^250:=by omega
 rcases Nat.eq_zero_or_pos b.natAbs with h0 |h0
 ·omega
 ·have:=(Nat.log2_lt (by omega)).mpr h3
  omega⟩
theorem Do {a b:Int}(h0:0<=b)(h1:b<=1000000)(h2: -(2^64)<a)(h3:a<2^64):Lg a b= .ok (a^b.toNat):=XD ⟨h0,h1,by omega⟩
theorem YA {as:List α}{i:Nat}{a:α}(h:as[i]?=some a):atR as (i:Int)= .ok a:=by
 have hlt:=(List.getElem?_eq_some_iff.mp h).1
 unfold atR atI ixN
 rw[if_pos (by omega),if_pos (by omega)]
 simp[h]
theorem M6 {as:List α}{i:Int}{a:α}(h0:0<=i)(h:as[i.toNat]?=some a):atR as i= .ok a:=by
 have:i=(i.toNat:Int):=by omega
 rw[this];exact YA h
theorem Zi {n:Nat}(h:n<2^62):Vu 0 (n:Int)= .ok ((List.range n).map λ(i:Nat)=>(i:Int)):=by
 unfold Vu
 rw[XD (by omega)]
 unfold JN
 congr 1
 rw[Int.sub_zero,Int.toNat_natCast]
 exact List.map_congr_left λi _=>by omega
theorem YN {n i:Nat}{a:Int}(h:((List.range n).map λ(i:Nat)=>(i:Int))[i]?=some a):a=(i:Int)/\i<n:=by
 have hlt:=(List.getElem?_eq_some_iff.mp h).1
 simp only[List.length_map,List.length_range] at hlt
 rw[List.getElem?_map,List.getElem?_range hlt] at h
 exact⟨(Option.some.inj h).symm,hlt⟩
theorem ZT {n:Nat}{a:Int}(h:a∈(List.range n).map λ(i:Nat)=>(i:Int)):∃i:Nat,i<n/\a=(i:Int):=by
 obtain⟨i,hi,rfl⟩:=List.mem_map.mp h
 exact⟨i,List.mem_range.mp hi,rfl⟩
theorem YE {n:Nat}:((List.range n).map λ(i:Nat)=>(i:Int)).length=n:=by simp
theorem Nj {a:Bool}{b:Rs Bool}{c:Bool}(h:a=true->b= .ok c):IE (.ok a) b= .ok (a&&c):=by
 cases a with
 |false=>rfl
 |true=>
  show(if true=true then b else Rs.ok false)=_
  rw[if_pos rfl,h rfl];rfl
theorem sz {n:Nat}(h:n<=100000):n<=sizeLine:=Nat.le_trans h (by decide)
theorem CA {n:Nat}(h:n<=100000):n<sizeLine:=Nat.lt_of_le_of_lt h (by decide)
noncomputable def Ok (m:Rs β)(R:β->Prop):Prop:=∃ r,m= .ok r/\R r
theorem Ok.pure {R:β->Prop}{a:β}(h:R a):Ok (.ok a) R:=⟨a,rfl,h⟩
theorem Ok.bind {m:Rs α}{f:α->Rs β}{R:α->Prop}{T:β->Prop}(h:Ok m R)(hf:∀a,R a->Ok (f a) T):Ok (m.bind f) T:=by
 obtain⟨a,e,ha⟩:=h
 rw[e];exact hf a ha
theorem Ok.imp {m:Rs α}{R T:α->Prop}(h:Ok m R)(hf:∀a,R a->T a):Ok m T:=by
 obtain⟨a,e,ha⟩:=h
 exact⟨a,e,hf a ha⟩
theorem Ok.noE {m:Rs α}{R:α->Prop}(h:Ok m R):Ok (noE m) R:=by
 obtain⟨a,e,ha⟩:=h
 rw[e];exact⟨a,rfl,ha⟩
theorem Ok.chk {c:Prop}[Decidable c]{m:Rs α}{R:α->Prop}(hc:c)(h:Ok m R):Ok (chk c m) R:=by rw[XD hc];exact h
theorem Ok.ite {b:Bool}{m n:Rs α}{R:α->Prop}(h1:b=true->Ok m R)(h2:b=false->Ok n R):Ok (if b=true then m else n) R:=by
 cases b with
 |true=>rw[if_pos rfl];exact h1 rfl
 |false=>rw[if_neg Bool.false_ne_true];exact h2 rfl
theorem Ok.forN {f:γ->α->Rs γ}(P:Nat->γ->Prop){as:List α}{g:γ}(h0:P 0 g)(hs:∀i a g,as[i]?=some a->P i g->Ok (f g a) (P (i+1))):Ok (forN as g f) (P as.length):=U7 P h0 hs
theorem Ok.forC {f:γ->α->Rs (Ctl ρ γ)}(P:Nat->γ->Prop){as:List α}{g:γ}(h0:P 0 g)(hs:∀i a g,as[i]?=some a->P i g->∃g',f g a= .ok (.nx g')/\P (i+1) g'):Ok (forC as g f) (λc=>∃ g',c= .nx g'/\P as.length g'):=by
 obtain⟨g',e,h⟩:=Hn P h0 hs
 exact⟨_,e,g',rfl,h⟩
theorem Dq {f:γ->Rs ρ}(g:γ):Q4 f (.nx g)=f g:=(Eq.refl (f g)).symm.symm
theorem KO {f:γ->Rs ρ}(r:ρ):Q4 f (.ret r)= .ok r:=(Eq.refl (Rs.ok r)).symm.symm
theorem Xr (a:α):noE (Rs.ok a)= .ok a:=(Eq.refl (Rs.ok a)).symm.symm
theorem Ok.of {m:Rs α}{a:α}(h:m= .ok a):Ok m (λb=>b=a):=⟨a,h,rfl⟩
theorem Ok.eq {m:Rs α}{a:α}(h:Ok m (λb=>b=a)):m= .ok a:=by
 obtain⟨b,e,rfl⟩:=h
 exact e
end
end L2
namespace My
noncomputable def Fi (n:Nat)(f:Nat->Nat->Nat)(a:Nat):List Int:=(List.range n).map λb=>(f a b:Int)
noncomputable def Vq (n:Nat)(f:Nat->Nat->Nat):List (List Int):=(List.range n).map (Fi n f)
theorem Vk (n:Nat)(f:Nat->Nat->Nat):(Vq n f).length=n:=by simp[Vq]
theorem BY {n:Nat}{f:Nat->Nat->Nat}{a b:Nat}(h:b<n):(Fi n f a)[b]?=some (f a b:Int):=by
 unfold Fi;rw[List.getElem?_map,List.getElem?_range h];rfl
theorem Br {n:Nat}{f:Nat->Nat->Nat}{a:Nat}(h:a<n):(Vq n f)[a]?=some (Fi n f a):=by
 unfold Vq;rw[List.getElem?_map,List.getElem?_range h];rfl
structure Col (n:Nat)(f:Nat->Nat->Nat):Prop where
 lt:∀a b,a<n->b<n->f a b<n
 r2:∀x y b,x<n->y<n->b<n->f x b=f y b->x=y
structure GoodF (n:Nat)(f:Nat->Nat->Nat):Prop extends Col n f where
 r1:∀a,a<n->f a a=a
 r3:∀a b c,a<n->b<n->c<n->f (f a b) c=f (f a c) (f b c)
theorem GoodF.congr {n:Nat}{f g:Nat->Nat->Nat}(h:GoodF n f)(e:∀a b,a<n->b<n->g a b=f a b):GoodF n g where
 lt a b ha hb:=by rw[e a b ha hb];exact h.lt a b ha hb
 r2 x y b hx hy hb q:=by rw[e x b hx hb,e y b hy hb] at q;exact h.r2 x y b hx hy hb q
 r1 a ha:=by rw[e a a ha ha];exact h.r1 a ha
 r3 a b c ha hb hc:=by
  rw[e a b ha hb,e a c ha hc,e b c hb hc,e _ c (h.lt a b ha hb) hc,e _ _ (h.lt a c ha hc) (h.lt b c hb hc)]
  exact h.r3 a b c ha hb hc
structure PermN (n:Nat)(p q:Nat->Nat):Prop where
 lt:∀a,a<n->p a<n
 qlt:∀a,a<n->q a<n
 pq:∀a,a<n->p (q a)=a
 qp:∀a,a<n->q (p a)=a
theorem PermN.good {n:Nat}{p q:Nat->Nat}{f:Nat->Nat->Nat}(h:PermN n p q)(g:GoodF n f):GoodF n (λx y=>p (f (q x) (q y))) where
 lt a b ha hb:=h.lt _ (g.lt _ _ (h.qlt a ha) (h.qlt b hb))
 r2 x y b hx hy hb e:=by
  have e1:q (p (f (q x) (q b)))=q (p (f (q y) (q b))):=congrArg q e
  rw[h.qp _ (g.lt _ _ (h.qlt x hx) (h.qlt b hb)),h.qp _ (g.lt _ _ (h.qlt y hy) (h.qlt b hb))] at e1
  have:=g.r2 _ _ _ (h.qlt x hx) (h.qlt y hy) (h.qlt b hb) e1
  rw[←h.pq x hx, ←h.pq y hy,this]
 r1 a ha:=by
  show p (f (q a) (q a))=a
  rw[g.r1 _ (h.qlt a ha),h.pq a ha]
 r3 a b c ha hb hc:=by
  have l1:=g.lt _ _ (h.qlt a ha) (h.qlt b hb)
  have l2:=g.lt _ _ (h.qlt a ha) (h.qlt c hc)
  have l3:=g.lt _ _ (h.qlt b hb) (h.qlt c hc)
  show p (f (q (p (f (q a) (q b)))) (q c))=p (f (q (p (f (q a) (q c)))) (q (p (f (q b) (q c)))))
  rw[h.qp _ l1,h.qp _ l2,h.qp _ l3,g.r3 _ _ _ (h.qlt a ha) (h.qlt b hb) (h.qlt c hc)]
end My
namespace My
open PySem L2
theorem Nc {n:Nat}{f:Nat->Nat->Nat}{a:Nat}(h:a<n):atR (Vq n f) (a:Int)= .ok (Fi n f a):=YA (Br h)
theorem MQ {n:Nat}{f:Nat->Nat->Nat}{a b:Nat}(h:b<n):atR (Fi n f a) (b:Int)= .ok (f a b:Int):=YA (BY h)
theorem J6 {α:Type}{as:List α}{i:Nat}{a:α}(h:i<as.length):QO as (i:Int) a= .ok (as.set i a):=by
 unfold QO ixN
 rw[if_pos (by omega),if_pos (by omega)]
 simp
noncomputable def Iw (n:Nat)(sp:List Int)(p q:Nat->Nat):Prop:=PermN n p q/\sp=(List.range n).map λi=>((p i:Nat):Int)
theorem Iw.get {n:Nat}{sp:List Int}{p q:Nat->Nat}(h:Iw n sp p q){i:Nat}(hi:i<n):atR sp (i:Int)= .ok ((p i:Nat):Int):=YA (by rw[h.2,List.getElem?_map,List.getElem?_range hi];rfl)
theorem Ij {as:List Int}{i:Nat}(h:i<as.length)(hl:as.length<=100000):Ef as (i:Int)= .ok (as[i],as.eraseIdx i):=by
 unfold Ef
 rw[XD (by omega)]
 have e:seqIndex? (i:Int) as.length=some i:=by
  unfold seqIndex?
  have h0:¬((i:Int)<0):=by omega
  simp[h0,h]
 rw[e]
 simp[h]
theorem UY:∀{as:List Int}{i:Nat} (h:i<as.length),(as[i]::as.eraseIdx i).Perm as
 |a::as,0,_=>by simp
 |a::as,i+1,h=>by
  have:=UY (as:=as) (i:=i) (by simpa using h)
  simp only[List.getElem_cons_succ,List.eraseIdx_cons_succ]
  exact(List.Perm.swap _ _ _).trans (this.cons a)
theorem HW {α:Type}(as:List α){k:Nat}(h:k<=as.length):DM as (some (k:Int)) none=as.drop k:=by
 unfold DM
 rw[HT.sIx_nat,HT.sIx_none,Nat.min_eq_left h,List.take_of_length_le (by rw[List.length_drop];omega)]
end My
namespace My
theorem QI (names:List Int):(names.flatMap λx=>[x,-x]).length=2*names.length:=by
 induction names with
 |nil=>rfl
 |cons x r ih=>rw[List.flatMap_cons,List.length_append,ih];simp;omega
theorem J4 {α:Type}:∀{l:List α}{k:Nat}{y:α},l[k]?=some y->(y::l.eraseIdx k).Perm l
 | [],_,_,e=>by simp at e
 |a::r,0,y,e=>by
  have e':a=y:=by simpa using e
  subst e';exact List.Perm.refl _
 |a::r,k+1,y,e=>by
  have e':r[k]?=some y:=by simpa using e
  show(y::a::r.eraseIdx k).Perm (a::r)
  exact(List.Perm.swap a y _).trans (List.Perm.cons a (J4 e'))
theorem Gb {α:Type}{l:List α}{k:Nat}{y:α}(e:l[k]?=some y):(l.eraseIdx k).length+1=l.length:=by
 have:=(J4 e).length_eq
 simpa using this
theorem F2 {α:Type}:∀{ws:List (List α)}{j:Nat}{w:List α}{y:α},ws[j]?=some w->((ws.set j (w++[y])).flatten).Perm (y::ws.flatten)
 | [],_,_,_,e=>by simp at e
 |a::r,0,w,y,e=>by
  have e':a=w:=by simpa using e
  subst e'
  show((a++[y])++r.flatten).Perm (y::(a++r.flatten))
  rw[List.append_assoc]
  exact List.perm_middle
 |a::r,j+1,w,y,e=>by
  have e':r[j]?=some w:=by simpa using e
  show(a++(r.set j (w++[y])).flatten).Perm (y::(a++r.flatten))
  exact(List.Perm.append_left a (F2 e')).trans List.perm_middle
theorem EC {α:Type}{ws:List (List α)}{j k:Nat}{w l:List α}{y:α}(e:ws[j]?=some w)(e3:l[k]?=some y):((ws.set j (w++[y])).flatten++l.eraseIdx k).Perm (ws.flatten++l):=by
 refine((F2 (y:=y) e).append_right _).trans ?_
 rw[List.cons_append]
 refine List.perm_middle.symm.trans ?_
 exact List.Perm.append_left _ (J4 e3)
theorem mem_set {α:Type}:∀{l:List α}{j:Nat}{v x:α},x∈l.set j v->x∈l∨x=v
 | [],_,_,_,h=>by simp at h
 |a::r,0,v,x,h=>by
  rw[List.set_cons_zero] at h
  rcases List.mem_cons.mp h with h |h
  ·exact .inr h
  ·exact .inl (List.mem_cons_of_mem _ h)
 |a::r,j+1,v,x,h=>by
  rw[List.set_cons_succ] at h
  rcases List.mem_cons.mp h with h |h
  ·exact .inl (by rw[h];exact List.mem_cons_self)
  ·rcases mem_set h with h |h
   ·exact .inl (List.mem_cons_of_mem _ h)
   ·exact .inr h
theorem Gz:∀{l:List Bool}{j:Nat},l[j]?=some false->(l.set j true).count false+1=l.count false
 | [],_,e=>by simp at e
 |a::r,0,e=>by
  have e':a=false:=by simpa using e
  subst e';simp
 |a::r,j+1,e=>by
  have e':r[j]?=some false:=by simpa using e
  have ih:=Gz e'
  rw[List.set_cons_succ,List.count_cons,List.count_cons]
  omega
end My
namespace My
noncomputable def GL (r:Int×Int)(at':Int):List Int:=if at'=r.1 then[r.2] else if at'=r.1+1 then[-r.2] else[]
noncomputable def UW (r:Int×Int)(at':Int):Int:=if at'=r.1 then r.1+1 else if at'=r.1+1 then r.1 else at'
noncomputable def Hf:List (Int×Int)->Int->Int
 | [],a=>a
 |r::rs,a=>Hf rs (UW r a)
noncomputable def Ft:List (Int×Int)->Int->List Int
 | [],_=>[]
 |r::rs,a=>GL r a++Ft rs (UW r a)
theorem Ep (rs:List (Int×Int))(r:Int×Int):∀a,Hf (rs++[r]) a=UW r (Hf rs a):=by
 induction rs with
 |nil=>intro a;rfl
 |cons q rs ih=>intro a;exact ih _
theorem CO (rs:List (Int×Int))(r:Int×Int):∀a,Ft (rs++[r]) a=Ft rs a++GL r (Hf rs a):=by
 induction rs with
 |nil=>intro a;simp[Ft,Hf]
 |cons q rs ih=>intro a;simp[Ft,Hf,ih]
theorem Fm {S:Int}{r:Int×Int}{a:Int}(h0:0<=r.1)(h1:r.1+1<S)(a0:0<=a)(a1:a<S):0<=UW r a/\UW r a<S:=by
 unfold UW
 split
 ·omega
 ·split<;> omega
noncomputable def Cl (S:Nat):List Int:=(List.range S).map λ(k:Nat)=>(k:Int)
theorem QW {S:Nat}{x:Int}:x∈Cl S↔0<=x/\x<(S:Int):=by
 unfold Cl
 rw[List.mem_map]
 constructor
 ·rintro⟨k,hk,rfl⟩
  have:=List.mem_range.mp hk
  omega
 ·rintro⟨h0,h1⟩
  exact⟨x.toNat,List.mem_range.mpr (by omega),by omega⟩
theorem Qh {α β:Type}{f:α->β}:∀{l:List α},(∀a b,a∈l->b∈l->f a=f b->a=b)->l.Nodup->(l.map f).Nodup
 | [],_,_=>List.nodup_nil
 |a::r,h,nd=>by
  rw[List.map_cons,List.nodup_cons]
  refine⟨λm=>?_,Qh (λx y hx hy=>h x y (List.mem_cons_of_mem _ hx) (List.mem_cons_of_mem _ hy)) (List.nodup_cons.mp nd).2⟩
  obtain⟨b,hb,e⟩:=List.mem_map.mp m
  have:=h b a (List.mem_cons_of_mem _ hb) List.mem_cons_self e
  exact(List.nodup_cons.mp nd).1 (by rw[←this];exact hb)
theorem QP (S:Nat):(Cl S).Nodup:=Qh (λa b _ _ e=>by omega) List.nodup_range
theorem JX {α:Type}[DecidableEq α]:∀{l m:List α},l.Nodup->m.Nodup->(∀x,x∈l↔x∈m)->l.Perm m
 | [],m,_,_,h=>by
  cases m with
  |nil=>exact List.Perm.refl _
  |cons a r=>exact absurd ((h a).mpr List.mem_cons_self) (by simp)
 |a::r,m,nl,nm,h=>by
  have ha:a∈m:=(h a).mp List.mem_cons_self
  have hp:m.Perm (a::m.erase a):=List.perm_cons_erase ha
  refine List.Perm.trans (List.Perm.cons a ?_) hp.symm
  have nd2:(a::m.erase a).Nodup:=hp.nodup_iff.mp nm
  refine JX (List.nodup_cons.mp nl).2 (List.nodup_cons.mp nd2).2 λx=>?_
  constructor
  ·intro hx
   have hxa:x≠a:=λe=>(List.nodup_cons.mp nl).1 (by rw[←e];exact hx)
   have:x∈a::m.erase a:=hp.mem_iff.mp ((h x).mp (List.mem_cons_of_mem _ hx))
   exact(List.mem_cons.mp this).resolve_left hxa
  ·intro hx
   have hxa:x≠a:=λe=>(List.nodup_cons.mp nd2).1 (e▸hx)
   have:x∈a::r:=(h x).mpr (hp.mem_iff.mpr (List.mem_cons_of_mem _ hx))
   exact(List.mem_cons.mp this).resolve_left hxa
theorem EB {S:Nat}{r:Int×Int}(h0:0<=r.1)(h1:r.1+1<(S:Int)):((Cl S).map (UW r)).Perm (Cl S):=by
 refine JX (Qh (λa b _ _ e=>?_) (QP S)) (QP S) λx=>?_
 ·unfold UW at e
  split at e<;> split at e<;> (try split at e)<;> (try split at e)<;> omega
 ·rw[List.mem_map,QW]
  constructor
  ·rintro⟨a,ha,rfl⟩
   have:=QW.mp ha
   exact Fm h0 h1 this.1 this.2
  ·rintro⟨x0,x1⟩
   refine⟨UW r x,QW.mpr (Fm h0 h1 x0 x1),?_⟩
   unfold UW
   split<;> (try split)<;> (try split)<;> omega
theorem ZY {α β:Type}(f:α->List β){l m:List α}(h:l.Perm m):(l.flatMap f).Perm (m.flatMap f):=by
 induction h with
 |nil=>exact List.Perm.refl _
 |cons x _ ih=>rw[List.flatMap_cons,List.flatMap_cons];exact List.Perm.append_left _ ih
 |swap x y l=>
  rw[List.flatMap_cons,List.flatMap_cons,List.flatMap_cons,List.flatMap_cons, ←List.append_assoc, ←List.append_assoc]
  exact List.Perm.append_right _ List.perm_append_comm
 |trans _ _ ih1 ih2=>exact ih1.trans ih2
theorem V9 {α β:Type}(f g:α->List β):∀l:List α,(l.flatMap λx=>f x++g x).Perm (l.flatMap f++l.flatMap g)
 | []=>List.Perm.refl _
 |a::r=>by
  rw[List.flatMap_cons,List.flatMap_cons,List.flatMap_cons]
  refine(List.Perm.append_left _ (V9 f g r)).trans ?_
  rw[List.append_assoc,List.append_assoc]
  refine List.Perm.append_left _ ?_
  rw[←List.append_assoc, ←List.append_assoc]
  exact List.Perm.append_right _ List.perm_append_comm
theorem Jo {α β:Type}(f:α->List β):∀{l:List α},(∀x∈l,f x=[])->l.flatMap f=[]
 | [],_=>rfl
 |a::r,h=>by rw[List.flatMap_cons,h a List.mem_cons_self,Jo f λx hx=>h x (List.mem_cons_of_mem _ hx)];rfl
theorem HN {S:Nat}{r:Int×Int}(h0:0<=r.1)(h1:r.1+1<(S:Int)):((Cl S).flatMap (GL r)).Perm [r.2,-r.2]:=by
 have ha:r.1∈Cl S:=QW.mpr ⟨h0,by omega⟩
 have hp:=List.perm_cons_erase ha
 have nd:=hp.nodup_iff.mp (QP S)
 have hb:r.1+1∈(Cl S).erase r.1:=by
  have:r.1+1∈r.1::(Cl S).erase r.1:=hp.mem_iff.mp (QW.mpr ⟨by omega,h1⟩)
  exact(List.mem_cons.mp this).resolve_left (by omega)
 have hq:=List.perm_cons_erase hb
 have nd2:=hq.nodup_iff.mp (List.nodup_cons.mp nd).2
 refine(ZY _ (hp.trans (List.Perm.cons _ hq))).trans ?_
 rw[List.flatMap_cons,List.flatMap_cons,Jo]
 ·unfold GL
  rw[if_pos rfl,if_neg (by omega),if_pos rfl]
  exact List.Perm.refl _
 ·intro x hx
  have x2:x≠r.1+1:=λe=>(List.nodup_cons.mp nd2).1 (e▸hx)
  have x1:x≠r.1:=λe=>(List.nodup_cons.mp nd).1 (e▸hq.mem_iff.mpr (List.mem_cons_of_mem _ hx))
  unfold GL
  rw[if_neg x1,if_neg x2]
theorem Ja {α β γ:Type}(f:α->β)(g:β->List γ)(l:List α):(l.map f).flatMap g=l.flatMap λx=>g (f x):=by
 induction l with
 |nil=>rfl
 |cons a r ih=>rw[List.map_cons,List.flatMap_cons,List.flatMap_cons,ih]
theorem FM {S:Nat}:∀{rs:List (Int×Int)},(∀r∈rs,0<=r.1/\r.1+1<(S:Int))->((Cl S).flatMap (Ft rs)).Perm (rs.flatMap λr=>[r.2,-r.2])
 | [],_=>by rw[Jo (Ft []) (λx _=>rfl)];exact List.Perm.refl _
 |r::rs,h=>by
  obtain⟨h0,h1⟩:=h r List.mem_cons_self
  rw[List.flatMap_cons]
  refine(V9 (GL r) (λa=>Ft rs (UW r a)) (Cl S)).trans ?_
  refine List.Perm.append (HN h0 h1) ?_
  rw[←Ja (UW r) (Ft rs)]
  exact(ZY _ (EB h0 h1)).trans (FM λq hq=>h q (List.mem_cons_of_mem _ hq))
theorem LX {x s:Int}(h:s=1∨s= -1): [x*s,-(x*s)].Perm [x,-x]:=by
 rcases h with h |h
 ·subst h;simp
 ·subst h
  have e1:x* -1= -x:=by omega
  have e2: -(-x)=x:=by omega
  rw[e1,e2]
  exact List.Perm.swap _ _ _
theorem JM {α β:Type}{f g:α->List β}:∀{l:List α},(∀x∈l,(f x).Perm (g x))->(l.flatMap f).Perm (l.flatMap g)
 | [],_=>List.Perm.refl _
 |a::r,h=>by
  rw[List.flatMap_cons,List.flatMap_cons]
  exact List.Perm.append (h a List.mem_cons_self) (JM λx hx=>h x (List.mem_cons_of_mem _ hx))
end My
namespace My
theorem Mh {r:Int×Int}{a:Int}(h:a=r.1):GL r a=[r.2]:=by unfold GL;rw[if_pos h]
theorem Lp {r:Int×Int}{a:Int}(h:a=r.1+1):GL r a=[-r.2]:=by unfold GL;rw[if_neg (by omega),if_pos h]
theorem Lb {r:Int×Int}{a:Int}(h:¬a=r.1)(h2:¬a=r.1+1):GL r a=[]:=by unfold GL;rw[if_neg h,if_neg h2]
theorem Lq {r:Int×Int}{a:Int}(h:a=r.1):UW r a=r.1+1:=by unfold UW;rw[if_pos h]
theorem LW {r:Int×Int}{a:Int}(h:a=r.1+1):UW r a=r.1:=by unfold UW;rw[if_neg (by omega),if_pos h]
theorem IR {r:Int×Int}{a:Int}(h:¬a=r.1)(h2:¬a=r.1+1):UW r a=a:=by unfold UW;rw[if_neg h,if_neg h2]
structure Done (S:Int)(seen:List Bool)(ps:List Int):Prop where
 nd:ps.Nodup
 at':∀p∈ps,0<=p/\p<S/\seen[p.toNat]?=some true
 of:∀q:Nat,seen[q]?=some true->(q:Int)∈ps
theorem Done.none (S:Int)(n:Nat):Done S (List.replicate n false) []:=
 ⟨List.nodup_nil,λp h=>by simp at h,λq h=>by
  rw[List.getElem?_replicate] at h
  split at h<;> cases h⟩
theorem KF {l:List Bool}{j q:Nat}(h:l[q]?=some true):(l.set j true)[q]?=some true:=by
 by_cases e:j=q
 ·subst e
  rw[List.getElem?_set_self (List.getElem?_eq_some_iff.mp h).1]
 ·rw[List.getElem?_set_ne e];exact h
theorem Done.snoc {S:Int}{seen:List Bool}{ps:List Int}{a:Int}(h:Done S seen ps)(a0:0<=a)(a1:a<S)(e:seen[a.toNat]?=some false):Done S (seen.set a.toNat true) (ps++[a]):=by
 have hl:a.toNat<seen.length:=(List.getElem?_eq_some_iff.mp e).1
 have hn:a∉ps:=λm=>by
  have:=(h.at' a m).2.2
  rw[e] at this;cases this
 refine⟨?_,λp hp=>?_,λq hq=>?_⟩
 ·rw[List.nodup_append]
  refine⟨h.nd,by simp,λx hx y hy=>?_⟩
  rw[List.mem_singleton.mp hy]
  exact λe=>hn (e▸hx)
 ·rcases List.mem_append.mp hp with hp |hp
  ·obtain⟨h1,h2,h3⟩:=h.at' p hp
   exact⟨h1,h2,KF h3⟩
  ·rw[List.mem_singleton.mp hp]
   exact⟨a0,a1,by rw[List.getElem?_set_self hl]⟩
 ·by_cases hqa:a.toNat=q
  ·exact List.mem_append_right _ (List.mem_singleton.mpr (by omega))
  ·rw[List.getElem?_set_ne hqa] at hq
   exact List.mem_append_left _ (h.of q hq)
theorem Done.all {S:Int}{seen:List Bool}{ps:List Int}(h:Done S seen ps)(hl:seen.length=S.toNat)(h0:0<=S)(ha:∀q:Nat,q<S.toNat->seen[q]?=some true):ps.Perm (Cl S.toNat):=by
 refine JX h.nd (QP _) λx=>?_
 rw[QW]
 constructor
 ·intro hx
  obtain⟨h1,h2,_⟩:=h.at' x hx
  omega
 ·rintro⟨x0,x1⟩
  have:=h.of x.toNat (ha x.toNat (by omega))
  rw[show((x.toNat:Nat):Int)=x by omega] at this
  exact this
theorem Dg {seen:List Bool}{i:Nat}(h:∀q:Nat,q<i->seen[q]?=some true)(hi:seen[i]?=some true):∀q:Nat,q<i+1->seen[q]?=some true:=λq hq=>by
 by_cases e:q=i
 ·subst e;exact hi
 ·exact h q (by omega)
end My
namespace My
open PySem L2
theorem EI (ns:List Int){p:Int}(hp:0<=p):∃c,VM ns p= .ok c:=by
 unfold VM
 simp only[Rs.okb]
 by_cases h:p<(ns.length:Int)
 ·rw[decide_eq_true h,if_pos rfl]
  have hl:p.toNat<ns.length:=by omega
  exact⟨ns[p.toNat],M6 hp (by simp[hl])⟩
 ·rw[decide_eq_false h,if_neg Bool.false_ne_true]
  obtain⟨g,e,_⟩:=U7 (as:=DM ns none (some 63)) (g:=(5:Int)) (f:=λg15 a17=>(Rs.bind (Rs.bind (Rs.bind (Rs.bind (Qr g15 48271) λx25=>(Rs.bind (Z2 a17 1000003) λx26=>(Rs.ok (x25+x26)))) λx27=>Rs.ok (x27+1)) λx29=>Z2 x29 2147483647) λa19=>(Rs.ok (a19)))) (λ_ _=>True) True.intro λi a g _ _=>by
   rw[Z5 (by decide) (by decide),Rs.ok_bind,Yg (by decide),Rs.ok_bind,Rs.ok_bind,Rs.ok_bind,Yg (by decide),Rs.ok_bind]
   exact⟨_,rfl,True.intro⟩
  rw[e,Rs.ok_bind,YK (by decide) (by decide),Rs.ok_bind,Rs.ok_bind,Yg (by decide)]
  exact⟨_,rfl⟩
theorem Ix (c:Int){k:Int}(h0:0<=k)(h1:k<=100000):∃y,Fp c k= .ok y/\0<=y:=by
 unfold Fp
 simp only[Rs.okb]
 have hm:0<=c % 2147483629/\c % 2147483629<2147483629:=⟨Int.emod_nonneg _ (by decide),Int.emod_lt_of_pos _ (by decide)⟩
 rw[Yg (by decide),Rs.ok_bind,YK (by decide) (by decide),Rs.ok_bind,Rs.ok_bind,Rs.ok_bind,Do (by decide) (by decide) (by omega) (by omega),Rs.ok_bind,Yg (by decide),Rs.ok_bind]
 rw[Z5 (by decide) (by decide),Rs.ok_bind,YK (by decide) (by decide),Rs.ok_bind,Z5 (by omega) (by omega),Rs.ok_bind,Rs.ok_bind,Rs.ok_bind,Yg (by decide),Rs.ok_bind,Io (by decide) (by decide)]
 exact⟨_,rfl,Int.ediv_nonneg (Int.emod_nonneg _ (by decide)) (by decide)⟩
theorem ID (ns:List Int){p:Int}(hp:0<=p)(sizes:List Int)(hl:sizes.length<=100000)(hs:∀x∈sizes,0<x/\x<2^250):
  Ok (KS ns p sizes) λr=>r.length=sizes.length/\∀(i:Nat) x s,r[i]?=some x->sizes[i]?=some s->0<=x/\x<s:=by
 obtain⟨c,ec⟩:=EI ns hp
 unfold KS
 simp only[Rs.okb]
 rw[ec,show noE (Rs.ok c)= .ok c from rfl,Rs.ok_bind,Zi (by omega),Rs.ok_bind,Do (by decide) (by decide) (by decide) (by decide)]
 simp only[Rs.okb]
 have key:∀(i:Nat) (a:Int) (g:List Int×Int),((List.range sizes.length).map λ(i:Nat)=>(i:Int))[i]?=some a->(g.1.length=i/\∀(j:Nat) x s,g.1[j]?=some x->sizes[j]?=some s->0<=x/\x<s)->∀y z:Int,∀s,sizes[i]?=some s->0<=y/\y<s->((g.1++[y],z).1.length=i+1/\∀(j:Nat) x s,(g.1++[y],z).1[j]?=some x->sizes[j]?=some s->0<=x/\x<s):=by
  intro i a g ha ⟨hg,hq⟩ y z s hs1 hy
  refine⟨by simp[hg],λj x s' hx hs'=>?_⟩
  have hx:(g.1++[y])[j]?=some x:=hx
  rcases Nat.lt_trichotomy j i with hj |hj |hj
  ·rw[List.getElem?_append_left (by omega)] at hx;exact hq j x s' hx hs'
  ·subst hj
   rw[List.getElem?_append_right (by omega),hg,Nat.sub_self] at hx
   have:y=x:=by simpa using hx
   rw[hs1] at hs'
   cases hs'
   rw[←this];exact hy
  ·rw[List.getElem?_eq_none (by simp;omega)] at hx;cases hx
 refine Ok.bind (Ok.forN (λi (g:List Int×Int)=>g.1.length=i/\∀(j:Nat) x s,g.1[j]?=some x->sizes[j]?=some s->0<=x/\x<s) ⟨rfl,λj x s h _=>by simp at h⟩ λi a g ha hg=>?_) (T:=λ(r:List Int)=>r.length=sizes.length/\∀(i:Nat) x s,r[i]?=some x->sizes[i]?=some s->0<=x/\x<s) λg ⟨hg,hq⟩=>?_
 ·obtain⟨rfl,hi⟩:=YN ha
  have hsz:sizes[i]?=some sizes[i]:=by simp[hi]
  have hsp:=hs _ (List.getElem_mem hi)
  have hgl:g.1.length<sizeLine:=CA (by have:=hg.1;omega)
  by_cases hc:c<10^(18:Int).toNat
  ·rw[decide_eq_true hc,if_pos rfl]
   obtain⟨y,ey,hy⟩:=Ix c (k:=(i:Int)) (by omega) (by omega)
   rw[ey,show noE (Rs.ok y)= .ok y from rfl,Rs.ok_bind,YA hsz,Rs.ok_bind,Yg hsp.1,Rs.ok_bind,XD hgl]
   exact⟨_,rfl,key i _ g ha hg _ _ _ hsz ⟨Int.emod_nonneg _ (by omega),Int.emod_lt_of_pos _ hsp.1⟩⟩
  ·rw[decide_eq_false hc,if_neg Bool.false_ne_true]
   by_cases hq:0<g.2
   ·rw[decide_eq_true hq,if_pos rfl,YA hsz,Rs.ok_bind,Yg hsp.1,Rs.ok_bind,XD hgl]
    simp only[Rs.okb]
    rw[Io hsp.1 hsp.2]
    exact⟨_,rfl,key i _ g ha hg _ _ _ hsz ⟨Int.emod_nonneg _ (by omega),Int.emod_lt_of_pos _ hsp.1⟩⟩
   ·rw[decide_eq_false hq,if_neg Bool.false_ne_true,Yg (by decide),Rs.ok_bind]
    obtain⟨c2,ec2⟩:=EI ns (p:=(p+1+(i:Int)) % 63) (Int.emod_nonneg _ (by decide))
    obtain⟨y,ey,hy⟩:=Ix c2 (k:=(i:Int)) (by omega) (by omega)
    rw[ec2,show noE (Rs.ok c2)= .ok c2 from rfl,Rs.ok_bind,ey,show noE (Rs.ok y)= .ok y from rfl,Rs.ok_bind,YA hsz,Rs.ok_bind,Yg hsp.1,Rs.ok_bind,XD hgl]
    exact⟨_,rfl,key i _ g ha hg _ _ _ hsz ⟨Int.emod_nonneg _ (by omega),Int.emod_lt_of_pos _ hsp.1⟩⟩
 ·rw[YE] at hg
  exact⟨g.1,rfl,hg,hq⟩
theorem Zh {α:Type}{r:List α}{k:Int}{n:Nat}(e:k=(n:Int))(h:n<r.length):atR r k= .ok r[n]:=by
 subst e;exact YA (by simp[h])
theorem FK {γ:Type}{c:γ->Rs Bool}{f:γ->Rs γ}(P:γ->Prop)(μ:γ->Nat)(hs:∀g,P g->∃b,c g= .ok b/\(b=true->Ok (f g) λg'=>P g'/\μ g'<μ g)):∀(n:Nat) (g:γ),P g->μ g<n->Ok (Qd n g c f) λg'=>P g'/\c g'= .ok false
 |0,_,_,h=>by omega
 |n+1,g,hp,hm=>by
  obtain⟨b,hb,h⟩:=hs g hp
  show Ok ((c g).bind _) _
  rw[hb,Rs.okb]
  cases b with
  |false=>rw[if_neg Bool.false_ne_true];exact⟨g,rfl,hp,hb⟩
  |true=>
   rw[if_pos rfl]
   exact Ok.bind (h rfl) λg' h'=>FK P μ hs n g' h'.1 (by omega)
theorem HV {ns r:List Int}(hl:ns.length<=100)(hr:8*ns.length+3<=r.length):Ok (J1 ns r) λl=>l.Perm ns:=by
 unfold J1
 simp only[Rs.okb]
 rw[Zi (by omega)]
 simp only[Rs.okb]
 refine Ok.bind (Ok.forN (λi (g:List Int×List Int)=>g.1.length=i/\(g.1++g.2).Perm ns) ⟨rfl,List.Perm.refl _⟩ λi a g ha hg=>?_) λg hg=>?_
 ·obtain⟨rfl,hi⟩:=YN ha
  obtain⟨h1,h2⟩:=hg
  have hl:=h2.length_eq
  simp only[List.length_append] at hl
  rw[YK (by decide) (by decide)]
  simp only[Rs.okb]
  rw[Zh (r:=r) (n:=8*i+9) (by omega) (by omega)]
  simp only[Rs.okb]
  have hpos:(0:Int)<(g.2.length:Int):=by omega
  generalize r[8*i+9]=y
  have hm1:=Int.emod_nonneg y (show(g.2.length:Int)≠0 by omega)
  have hm2:=Int.emod_lt_of_pos y hpos
  rw[Yg hpos,Rs.okb]
  generalize hk:y % (g.2.length:Int)=k at hm1 hm2
  obtain⟨j,rfl⟩:∃j:Nat,k=j:=⟨k.toNat,by omega⟩
  have hj:j<g.2.length:=by omega
  rw[Ij hj (by omega),Rs.okb,XD (CA (by omega))]
  refine⟨_,rfl,by simp[h1],?_⟩
  refine List.Perm.trans ?_ h2
  show((g.1++[g.2[j]])++g.2.eraseIdx j).Perm (g.1++g.2)
  rw[List.append_assoc]
  exact(UY hj).append_left _
 ·obtain⟨h1,h2⟩:=hg
  rw[YE] at h1
  have hl:=h2.length_eq
  simp only[List.length_append] at hl
  have:g.2=[]:=List.length_eq_zero_iff.mp (by omega)
  rw[this,List.append_nil] at h2
  exact⟨_,rfl,h2⟩
theorem MB {ns r:List Int}{rings:Nat}(hl:ns.length<=100)(hr:8*ns.length+3<=r.length)(hg:ns≠ []->1<=rings)(hg2:rings<=100):Ok (DF ns r (rings:Int)) λws=>ws.length=rings/\ws.flatten.Perm (ns.flatMap λx=>[x,-x]):=by
 unfold DF
 simp only[Rs.okb]
 refine Ok.bind (Ok.forN (λi (g:List Int)=>g=(ns.take i).flatMap λx=>[x,-x]) rfl λi a g ha hg=>?_) λg hgg=>?_
 ·have hi:=(List.getElem?_eq_some_iff.mp ha).1
  subst hg
  rw[XD (show[a,-a].length<=sizeLine from sz (by simp)),Rs.okb,XD (sz (by rw[QI];simp;omega))]
  refine⟨_,rfl,?_⟩
  rw[List.take_add_one,ha]
  simp
 rw[List.take_length] at hgg
 subst hgg
 rw[Zi (by omega)]
 simp only[Rs.okb]
 rw[YM (h:=λ_=>([]:List Int)) (sz (by simp;omega)) λ_ _=>rfl]
 simp only[Rs.okb]
 rw[YK (by decide) (by decide),Rs.okb,show(2:Int)*(ns.length:Int)=((2*ns.length:Nat):Int) by omega,Zi (by omega)]
 simp only[Rs.okb]
 refine Ok.bind (Ok.forN (λi (g:List Int×List (List Int))=>g.2.length=rings/\g.1.length+i=2*ns.length/\(∀w∈g.2,w.length<=i)/\(g.2.flatten++g.1).Perm (ns.flatMap λx=>[x,-x])) ⟨by simp,by rw[QI];rfl,λw hw=>?_,?_⟩ λi a g ha hg=>?_) λg hg=>?_
 ·obtain⟨_,_,rfl⟩:=List.mem_map.mp hw
  exact Nat.zero_le _
 ·have:∀l:List Int,(l.map λ_=>([]:List Int)).flatten=[]:=λl=>by simp
  rw[this];exact List.Perm.refl _
 ·obtain⟨rfl,hi⟩:=YN ha
  obtain⟨h1,h2,h3,h4⟩:=hg
  have hne:1<=rings:=by
   refine ‹ns≠ []->1<=rings› λe=>?_
   rw[e] at hi;simp at hi
  rw[YK (by decide) (by decide)]
  simp only[Rs.okb]
  rw[Zh (r:=r) (n:=4*i+5) (by omega) (by omega)]
  simp only[Rs.okb]
  have hpos:(0:Int)<(g.1.length:Int):=by omega
  generalize r[4*i+5]=y
  have hm1:=Int.emod_nonneg y (show(g.1.length:Int)≠0 by omega)
  have hm2:=Int.emod_lt_of_pos y hpos
  rw[Yg hpos,Rs.okb]
  generalize hk:y % (g.1.length:Int)=k at hm1 hm2
  obtain⟨j,rfl⟩:∃j:Nat,k=j:=⟨k.toNat,by omega⟩
  have hj:j<g.1.length:=by omega
  rw[Ij hj (by omega),Rs.okb]
  simp only[Rs.okb]
  rw[Zh (r:=r) (n:=4*i+6) (by omega) (by omega)]
  simp only[Rs.okb]
  generalize r[4*i+6]=y2
  have hp2:(0:Int)<(rings:Int):=by omega
  have hn1:=Int.emod_nonneg y2 (show(rings:Int)≠0 by omega)
  have hn2:=Int.emod_lt_of_pos y2 hp2
  rw[Yg hp2,Rs.okb]
  generalize hk2:y2 % (rings:Int)=k2 at hn1 hn2
  obtain⟨q,rfl⟩:∃q:Nat,k2=q:=⟨k2.toNat,by omega⟩
  have hq:q<g.2.length:=by omega
  have hw:=h3 g.2[q] (List.getElem_mem hq)
  rw[Zh (n:=q) rfl hq,Rs.okb,XD (CA (by omega)),J6 hq,Rs.okb]
  have hjs:g.1[j]?=some g.1[j]:=by simp[hj]
  have hqs:g.2[q]?=some g.2[q]:=by simp[hq]
  refine⟨_,rfl,by simp[h1],?_,λw hw'=>?_,(EC hqs hjs).trans h4⟩
  ·have:=Gb hjs
   show(g.1.eraseIdx j).length+(i+1)=_
   omega
  ·rcases mem_set hw' with h |h
   ·have:=h3 w h;omega
   ·rw[h];simp;omega
 ·obtain⟨h1,h2,h3,h4⟩:=hg
  rw[YE] at h2
  have:g.1=[]:=List.length_eq_zero_iff.mp (by omega)
  rw[this,List.append_nil] at h4
  exact⟨_,rfl,h1,h4⟩
noncomputable def V3 (ns r:List Int)(sg:Int->Int)(S:Int):List (Int×Int):=(List.range ns.length).map λk=>(r.getD (8*k+10) 0 % (S-1),ns.getD k 0*sg (ns.getD k 0))
theorem DR {ns r:List Int}{sg:Int->Int}{S:Int}{k:Nat}(h:k<ns.length)(h2:8*k+10<r.length):(V3 ns r sg S)[k]?=some (r[8*k+10] % (S-1),ns[k]*sg ns[k]):=by
 unfold V3
 rw[List.getElem?_map,List.getElem?_range h]
 simp[h,h2]
theorem DP {ns r:List Int}{d:List (Int×Int)}{sg:Int->Int}{S:Nat}(hl:ns.length<=100)(hr:8*ns.length+3<=r.length)(hd:∀x∈ns,Zp d x=some (sg x))(hs:∀x∈ns,sg x=1∨sg x= -1)(h2:2<=S)(h4:S<=100):Ok (Qb ns d r (S:Int)) λws=>ws.length<=S/\ws.flatten.Perm (ns.flatMap λx=>[x,-x]):=by
 have hrs:∀q∈V3 ns r sg (S:Int),0<=q.1/\q.1+1<(S:Int):=λq hq=>by
  obtain⟨k,_,rfl⟩:=List.mem_map.mp hq
  have hp:(0:Int)<(S:Int)-1:=by omega
  have hm1:=Int.emod_nonneg (r.getD (8*k+10) 0) (show((S:Int)-1)≠0 by omega)
  have hm2:=Int.emod_lt_of_pos (r.getD (8*k+10) 0) hp
  show 0<=_ % _/\_ % _+1<_
  omega
 have hrl:(V3 ns r sg (S:Int)).length=ns.length:=by simp[V3]
 have hin:∀(rs:List (Int×Int)),(∀q∈rs,0<=q.1/\q.1+1<(S:Int))->∀a:Int,0<=a->a<(S:Int)->0<=Hf rs a/\Hf rs a<(S:Int):=by
  intro rs
  induction rs with
  |nil=>intro _ a h0 h1;exact⟨h0,h1⟩
  |cons q rs ih=>
   intro hq a h0 h1
   have h:=Fm (hq q (by simp)).1 (hq q (by simp)).2 h0 h1
   exact ih (λx hx=>hq x (by simp[hx])) _ h.1 h.2
 have hcl:∀(rs:List (Int×Int)) (a:Int),(Ft rs a).length<=rs.length:=by
  intro rs
  induction rs with
  |nil=>intro a;exact Nat.le_refl _
  |cons q rs ih=>
   intro a
   show(GL q a++Ft rs (UW q a)).length<=_
   have h1:(GL q a).length<=1:=by
    unfold GL
    split
    ·simp
    ·split<;> simp
   have:=ih (UW q a)
   simp only[List.length_append,List.length_cons]
   omega
 unfold Qb
 simp only[Rs.okb]
 rw[XD (show[false].length<=sizeLine from sz (by simp)),Rs.okb,show G6 [false] (S:Int)= .ok (List.replicate S false) from ?_]
 rotate_left
 ·unfold G6
  rw[XD ⟨by omega,by omega,sz (by simp;omega)⟩,Int.toNat_natCast]
  congr 1
  clear h2 h4 hrs hin hrl
  induction S with
  |zero=>rfl
  |succ n ih=>rw[List.replicate_succ,List.flatten_cons,ih,List.replicate_succ];rfl
 rw[Rs.okb,Zi (by omega),Rs.okb]
 generalize hR:V3 ns r sg (S:Int)=rs at hrs hrl
 refine Ok.bind (Ok.forN (λi (g:List Bool×List (List Int))=>g.1.length=S/\g.2.length<=i/\(∀q:Nat,q<i->g.1[q]?=some true)/\∃ps,Done (S:Int) g.1 ps/\g.2.flatten=ps.flatMap (Ft rs)) ⟨by simp,Nat.le_refl _,λq hq=>by omega,[],Done.none _ _,rfl⟩ λi a g ha hg=>?_) λg hg=>?_
 ·obtain⟨rfl,hi⟩:=YN ha
  obtain⟨g1,g2,g3,ps,g4,g5⟩:=hg
  have hi1:i<g.1.length:=by omega
  rw[Zh (n:=i) rfl hi1]
  simp only[Rs.okb]
  cases hb:g.1[i] with
  |true=>
   rw[show(!true)=false from rfl,if_neg Bool.false_ne_true]
   simp only[Rs.okb]
   exact⟨_,rfl,g1,by show g.2.length<=_;omega,Dg g3 (by simp[hi1,hb]),ps,g4,g5⟩
  |false=>
   rw[show(!false)=true from rfl,if_pos rfl]
   refine Ok.bind (R:=λg':List Bool×List (List Int)=>g'.1.length=S/\g'.2.length<=i+1/\(∀q:Nat,q<i+1->g'.1[q]?=some true)/\∃ps,Done (S:Int) g'.1 ps/\g'.2.flatten=ps.flatMap (Ft rs)) (Ok.bind (FK (λg':List Bool×Int×List Int=>g'.1.length=S/\0<=g'.2.1/\g'.2.1<(S:Int)/\(∀q:Nat,g.1[q]?=some true->g'.1[q]?=some true)/\((g'.2.1=(i:Int)/\g'.1[i]?=some false)∨g'.1[i]?=some true)/\g'.2.2.length+100*g'.1.count false<=100*S/\∃qs,Done (S:Int) g'.1 (ps++qs)/\g'.2.2=qs.flatMap (Ft rs)) (λg'=>g'.1.count false) (λg' hg'=>?_) _ (g.1,(i:Int),[]) ⟨g1,by show(0:Int)<=(i:Int);omega,by show(i:Int)<(S:Int);omega,λq h=>h, .inl ⟨rfl,by simp[hi1,hb]⟩,by
    have:g.1.count false<=g.1.length:=List.count_le_length
    show 0+100*g.1.count false<=100*S
    omega,[],by rw[List.append_nil];exact g4,rfl⟩ ?_) λg' hg'=>?_) λg' hg'=>?_
   ·obtain⟨w1,w2,w3,w4,w5,w8,qs,w6,w7⟩:=hg'
    obtain⟨p,hp⟩:∃p:Nat,g'.2.1=(p:Int):=⟨g'.2.1.toNat,by omega⟩
    have hpl:p<g'.1.length:=by omega
    rw[Zh hp hpl]
    refine⟨_,rfl,λhf=>?_⟩
    have hf':g'.1[p]=false:=by simpa using hf
    have hfs:g'.1[p]?=some false:=by simp[hpl,hf']
    rw[hp,J6 hpl]
    simp only[Rs.okb]
    rw[Zi (by omega)]
    simp only[Rs.okb]
    refine Ok.bind (Ok.forN (λk (h:Int×List Int)=>h.1=Hf (rs.take k) (p:Int)/\h.2=g'.2.2++Ft (rs.take k) (p:Int)) ⟨rfl,by rw[List.take_zero];exact(List.append_nil _).symm⟩ λk b h hb' hh=>?_) λh hh=>?_
    ·obtain⟨rfl,hk⟩:=YN hb'
     obtain⟨e1,e2⟩:=hh
     have hq:=DR (sg:=sg) (S:=(S:Int)) hk (show 8*k+10<r.length by omega)
     rw[hR] at hq
     have hts:rs.take (k+1)=rs.take k++[(r[8*k+10] % ((S:Int)-1),ns[k]*sg ns[k])]:=by rw[List.take_add_one,hq];rfl
     rw[hts,Ep,CO, ←e1]
     rw[YK (by decide) (by decide)]
     simp only[Rs.okb]
     rw[Zh (r:=r) (n:=8*k+10) (by omega) (by omega)]
     simp only[Rs.okb]
     rw[Yg (by omega)]
     simp only[Rs.okb]
     rw[Zh (r:=ns) (n:=k) rfl hk]
     simp only[Rs.okb]
     have hgd:UC d ns[k]= .ok (sg ns[k]):=by unfold UC;rw[hd _ (List.getElem_mem hk)];rfl
     have hsg:=hs _ (List.getElem_mem hk)
     rw[hgd]
     simp only[Rs.okb]
     rw[Z5 (a:=ns[k]) (by omega) (by omega),Z5 (a:=-ns[k]) (by omega) (by omega)]
     simp only[Rs.okb]
     have hlen:h.2.length<sizeLine:=CA (by
      have:=hcl (rs.take k) (p:Int)
      rw[List.length_take] at this
      rw[e2,List.length_append];omega)
     rw[XD hlen,XD hlen]
     generalize r[8*k+10] % ((S:Int)-1)=low
     by_cases c1:h.1=low
     ·rw[if_pos (decide_eq_true c1)]
      simp only[Rs.okb]
      refine⟨_,rfl,?_,?_⟩
      ·rw[Lq c1]
      ·rw[Mh c1,e2,List.append_assoc]
     ·rw[if_neg (by rw[decide_eq_false c1];exact Bool.false_ne_true)]
      by_cases c2:h.1=low+1
      ·rw[if_pos (decide_eq_true c2)]
       simp only[Rs.okb]
       refine⟨_,rfl,?_,?_⟩
       ·rw[LW c2]
       ·rw[Lp c2,e2,List.append_assoc,Int.neg_mul]
      ·rw[if_neg (by rw[decide_eq_false c2];exact Bool.false_ne_true)]
       simp only[Rs.okb]
       refine⟨_,rfl,?_,?_⟩
       ·rw[IR c1 c2]
       ·rw[Lb c1 c2,List.append_nil,e2]
    ·rw[YE, ←hrl,List.take_length] at hh
     obtain⟨e1,e2⟩:=hh
     have hpr:=hin rs hrs (p:Int) (by omega) (by omega)
     have hct:=Gz hfs
     have hcl':=hcl rs (p:Int)
     refine⟨_,rfl,⟨?_,?_,?_,?_,?_,?_,qs++[(p:Int)],?_,?_⟩,?_⟩
     ·show(g'.1.set p true).length=S
      rw[List.length_set];exact w1
     ·show 0<=h.1
      rw[e1];exact hpr.1
     ·show h.1<_
      rw[e1];exact hpr.2
     ·exact λq hq=>KF (w4 q hq)
     ·refine .inr ?_
      show(g'.1.set p true)[i]?=some true
      rcases w5 with⟨h1,_⟩ |h1
      ·have:p=i:=by omega
       subst this
       rw[List.getElem?_set_self hpl]
      ·exact KF h1
     ·show h.2.length+100*(g'.1.set p true).count false<=100*S
      rw[e2,List.length_append];omega
     ·rw[←List.append_assoc]
      have:=w6.snoc (a:=(p:Int)) (by omega) (by omega) (by rw[Int.toNat_natCast];exact hfs)
      rwa [Int.toNat_natCast] at this
     ·show h.2=_
      rw[e2,w7,List.flatMap_append]
      simp
     ·show(g'.1.set p true).count false<g'.1.count false
      omega
   ·have:g.1.count false<=g.1.length:=List.count_le_length
    show g.1.count false<(S:Int).natAbs+2
    omega
   ·obtain⟨⟨w1,w2,w3,w4,w5,w8,qs,w6,w7⟩,hc⟩:=hg'
    obtain⟨p,hp⟩:∃p:Nat,g'.2.1=(p:Int):=⟨g'.2.1.toNat,by omega⟩
    have hpl:p<g'.1.length:=by omega
    rw[Zh hp hpl,Rs.okb] at hc
    have hc':g'.1[p]=true:=by
     have:=Rs.ok.inj hc
     simpa using this
    have h5:g'.1[i]?=some true:=by
     rcases w5 with⟨h1,h6⟩ |h1
     ·have:p=i:=by omega
      subst this
      rw[List.getElem?_eq_getElem hpl,hc'] at h6
      cases h6
     ·exact h1
    rw[XD (CA (by omega))]
    refine⟨_,rfl,w1,?_,?_,ps++qs,w6,?_⟩
    ·show(g.2++[g'.2.2]).length<=_
     simp;omega
    ·exact Dg (λq hq=>w4 q (g3 q hq)) h5
    ·show(g.2++[g'.2.2]).flatten=_
     rw[List.flatten_append,g5,List.flatMap_append,w7]
     simp
   ·exact⟨_,rfl,hg'⟩
 ·obtain⟨g1,g2,g3,ps,g4,g5⟩:=hg
  rw[YE] at g2 g3
  refine⟨_,rfl,g2,?_⟩
  rw[g5]
  refine(ZY _ (g4.all (by rw[g1];rfl) (by omega) λq hq=>g3 q (by omega))).trans ?_
  rw[Int.toNat_natCast]
  refine(FM hrs).trans ?_
  rw[←hR]
  unfold V3
  rw[Ja]
  have e:ns.flatMap (λx=>[x,-x])=(List.range ns.length).flatMap λk=>[ns.getD k 0,-(ns.getD k 0)]:=by
   have h:ns=(List.range ns.length).map λk=>ns.getD k 0:=List.ext_getElem (by simp) λj h1 h2=>by simp[h1]
   conv=>lhs;rw[h]
   rw[Ja]
  rw[e]
  refine JM λk hk=>LX (hs _ ?_)
  have hk':=List.mem_range.mp hk
  simp[hk']
theorem Ew {α:Type}{l:List α}{m c:Nat}(hm:l.length=m)(hc:c<m):∀{n j:Nat},j<n->(List.replicate n l).flatten[m*j+c]?=l[c]?
 |0,_,h=>by omega
 |n+1,0,_=>by
  rw[List.replicate_succ,List.flatten_cons,Nat.mul_zero,Nat.zero_add,List.getElem?_append_left (by omega)]
 |n+1,j+1,h=>by
  rw[List.replicate_succ,List.flatten_cons,List.getElem?_append_right (by rw[hm,Nat.mul_succ];omega),hm,show m*(j+1)+c-m=m*j+c by rw[Nat.mul_succ];omega]
  exact Ew hm hc (by omega)
theorem EO {α:Type}(l:List α):∀n:Nat,(List.replicate n l).flatten.length=n*l.length
 |0=>by simp
 |n+1=>by rw[List.replicate_succ,List.flatten_cons,List.length_append,EO l n,Nat.succ_mul];omega
structure Drawn (most:Nat)(D:List (List Int)×List (Int×Int)):Prop where
 le:D.2.length<=most
 inc:(D.2.map Prod.fst).Pairwise (· < ·)
 pos:∀e∈D.2,1<=e.1/\e.1<2^62/\(e.2=1∨e.2= -1)
 perm:D.1.flatten.Perm ((D.2.map Prod.fst).flatMap λx=>[x,-x])
 few:D.1.length<=4
theorem Bj:∀{d:List (Int×Int)}{x:Int},x∈d.map Prod.fst->∃v,Zp d x=some v/\(x,v)∈d
 | [],_,h=>by simp at h
 |kv::d,x,h=>by
  by_cases c:kv.1=x
  ·exact⟨kv.2,by simp[Zp,List.find?_cons,c],by rw[←c];simp⟩
  ·have hx:x∈d.map Prod.fst:=by
    rw[List.map_cons,List.mem_cons] at h
    rcases h with h |h
    ·exact absurd h.symm c
    ·exact h
   obtain⟨v,h1,h2⟩:=Bj hx
   exact⟨v,by unfold Zp at h1⊢;rw[List.find?_cons,decide_eq_false c];exact h1,List.mem_cons_of_mem _ h2⟩
theorem Hm {d:List (Int×Int)}{k v:Int}(h:∀x∈d.map Prod.fst,x≠k):Uq d k v=d++[(k,v)]:=by
 unfold Uq
 rw[if_neg]
 rw[List.any_eq_true]
 rintro⟨kv,h1,h2⟩
 exact h kv.1 (List.mem_map.mpr ⟨kv,h1,rfl⟩) (by simpa using h2)
theorem Hv (ns:List Int){p:Int}(hp:0<=p){most:Nat}(hm:most<=100):Ok (Js ns p (most:Int)) (Drawn most):=by
 unfold Js
 simp only[Rs.okb]
 rw[XD (sz (by simp))]
 simp only[Rs.okb]
 rw[XD (sz (by simp))]
 simp only[Rs.okb]
 rw[YK (by decide) (by decide),Rs.okb,show(2:Int)*(most:Int)=((2*most:Nat):Int) by omega]
 rw[show G6 [(80:Int),5,2,3] ((2*most:Nat):Int)= .ok (List.replicate (2*most) [(80:Int),5,2,3]).flatten from by
  unfold G6
  rw[XD ⟨by omega,by omega,sz (by simp;omega)⟩,Int.toNat_natCast]]
 simp only[Rs.okb]
 have hrl:=EO [(80:Int),5,2,3] (2*most)
 have hrg:∀{j c:Nat},c<4->j<2*most->(List.replicate (2*most) [(80:Int),5,2,3]).flatten[4*j+c]?=[(80:Int),5,2,3][c]?:=fun {j c} hc hj=>Ew rfl hc hj
 have hrm:∀x∈(List.replicate (2*most) [(80:Int),5,2,3]).flatten,0<x/\x<2^250:=λx hx=>by
  obtain⟨l,h1,h2⟩:=List.mem_flatten.mp hx
  rw[(List.mem_replicate.mp h1).2] at h2
  simp only[List.mem_cons,List.not_mem_nil,or_false] at h2
  rcases h2 with rfl |rfl |rfl |rfl<;> decide
 generalize (List.replicate (2*most) [(80:Int),5,2,3]).flatten=tl at hrl hrg hrm
 rw[show([(80:Int),5,2,3]).length=4 from rfl] at hrl
 rw[show DL [(most:Int)+1,5,4,3,3] tl= .ok ([(most:Int)+1,5,4,3,3]++tl) from XD (sz (by simp;omega))]
 simp only[Rs.okb]
 refine Ok.bind (Ok.noE (ID ns hp _ (by simp;omega) λx hx=>?_)) λr hr=>?_
 ·rw[List.mem_append] at hx
  rcases hx with h |h
  ·simp only[List.mem_cons,List.not_mem_nil,or_false] at h
   rcases h with rfl |rfl |rfl |rfl |rfl
   ·refine⟨by omega,by omega⟩
   all_goals decide
  ·exact hrm x h
 obtain⟨hl,hv⟩:=hr
 have hl':r.length=5+8*most:=by rw[hl];simp;omega
 have hv5:∀(j c:Nat) (s:Int),c<4->j<2*most-> [(80:Int),5,2,3][c]?=some s->∀h:5+4*j+c<r.length,0<=r[5+4*j+c]/\r[5+4*j+c]<s:=λj c s hc hj hs h=>by
  refine hv (5+4*j+c) _ s (by simp[h]) ?_
  rw[List.getElem?_append_right (by simp;omega)]
  simp only[List.length_cons,List.length_nil]
  rw[show 5+4*j+c-(0+1+1+1+1+1)=4*j+c by omega,hrg hc hj]
  exact hs
 have v0:=hv 0 r[0] _ (by simp) rfl
 have v1:=hv 1 r[1] _ (by simp) rfl
 have v2:=hv 2 r[2] _ (by simp) rfl
 have v3:=hv 3 r[3] _ (by simp) rfl
 have v4:=hv 4 r[4] _ (by simp) rfl
 rw[Zh (r:=r) (k:=0) (n:=0) rfl (by omega),Zh (r:=r) (k:=1) (n:=1) rfl (by omega),Zh (r:=r) (k:=2) (n:=2) rfl (by omega),Zh (r:=r) (k:=3) (n:=3) rfl (by omega),Zh (r:=r) (k:=4) (n:=4) rfl (by omega)]
 simp only[Rs.okb]
 obtain⟨m0,hm0⟩:∃m0:Nat,r[0]=m0:=⟨r[0].toNat,by omega⟩
 rw[hm0] at v0⊢
 rw[Zi (by omega),Do (by decide) (by decide) (by decide) (by decide)]
 simp only[Rs.okb]
 rw[XD (sz (by simp))]
 simp only[Rs.okb]
 have hz:∃z,atR [0,1,(10:Int)^(9:Int).toNat] r[3]= .ok z/\0<=z/\z<=1000000000:=by
  rcases(by omega:r[3]=0∨r[3]=1∨r[3]=2) with h |h |h<;> rw[h]
  ·exact⟨0,rfl,by decide,by decide⟩
  ·exact⟨1,rfl,by decide,by decide⟩
  ·exact⟨1000000000,rfl,by decide,by decide⟩
 obtain⟨z,hz,hz0,hz1⟩:=hz
 rw[hz]
 simp only[Rs.okb]
 refine Ok.bind (Ok.forN (λi (g:Int×List (Int×Int)×List Int)=>g.2.1.map Prod.fst=g.2.2/\g.2.2.length=i/\0<=g.1/\g.1<=(i:Int)*3000000000/\g.2.2.Pairwise (· < ·)/\(∀x∈g.2.2,1<=x/\x<=g.1)/\∀e∈g.2.1,e.2=1∨e.2= -1) ⟨rfl,rfl,Int.le_refl _,by decide,List.Pairwise.nil,λx hx=>(by cases hx),λx hx=>(by cases hx)⟩ λi a g ha hg=>?_) λg hg=>?_
 ·obtain⟨rfl,hi⟩:=YN ha
  obtain⟨h1,h2,h3,h4,h5,h6,h7⟩:=hg
  have hA:5+4*(2*i)+3<r.length:=by omega
  have hB:5+4*(2*i)+2<r.length:=by omega
  have kA:=hv5 (2*i) 3 3 (by omega) (by omega) rfl hA
  have kB:=hv5 (2*i) 2 2 (by omega) (by omega) rfl hB
  rw[YK (a:=8) (by decide) (by decide)]
  simp only[Rs.okb]
  rw[Zh (r:=r) (k:=8*(i:Int)+8) (n:=5+4*(2*i)+3) (by omega) hA,Zh (r:=r) (k:=8*(i:Int)+7) (n:=5+4*(2*i)+2) (by omega) hB]
  simp only[Rs.okb]
  generalize r[5+4*(2*i)+3]=y at kA
  generalize r[5+4*(2*i)+2]=y2 at kB
  rw[YK (a:=y) (by omega) (by omega),YK (a:=2) (by decide) (by decide)]
  simp only[Rs.okb]
  have hd1:g.2.1.length=i:=by rw[←h2, ←h1,List.length_map]
  rw[XD (CA (by omega)),XD (CA (by omega))]
  have q0:0<=y*z:=Int.mul_nonneg kA.1 hz0
  have q1:y*z<=2*1000000000:=Int.mul_le_mul (by omega) hz1 hz0 (by decide)
  generalize y*z=st at q0 q1
  have hnew:∀x∈g.2.1.map Prod.fst,x≠g.1+1+st:=λx hx e=>by
   rw[h1] at hx
   have:=(h6 x hx).2
   omega
  rw[Hm hnew]
  refine⟨_,rfl,?_,?_,?_,?_,?_,?_,?_⟩
  ·show(g.2.1++[(g.1+1+st,2*y2-1)]).map Prod.fst=g.2.2++[g.1+1+st]
   rw[List.map_append,h1];rfl
  ·show(g.2.2++[g.1+1+st]).length=_
   simp[h2]
  ·show 0<=g.1+1+st
   omega
  ·show g.1+1+st<=_
   omega
  ·show(g.2.2++[g.1+1+st]).Pairwise (· < ·)
   rw[List.pairwise_append]
   refine⟨h5,by simp,λx hx w hw=>?_⟩
   rw[List.mem_singleton] at hw
   have:=(h6 x hx).2
   omega
  ·intro x hx
   show 1<=x/\x<=g.1+1+st
   rcases List.mem_append.mp hx with h |h
   ·have:=h6 x h;omega
   ·rw[List.mem_singleton] at h;omega
  ·intro e he
   rcases List.mem_append.mp he with h |h
   ·exact h7 e h
   ·rw[List.mem_singleton] at h
    subst h
    show 2*y2-1=1∨2*y2-1= -1
    omega
 obtain⟨h1,h2,h3,h4,h5,h6,h7⟩:=hg
 rw[YE] at h2 h4
 generalize hN:g.2.2=names at*
 generalize hD:g.2.1=d at*
 have hsg:∀x∈names,Zp d x=some ((Zp d x).getD 1)/\((Zp d x).getD 1=1∨(Zp d x).getD 1= -1):=λx hx=>by
  obtain⟨v,e1,e2⟩:=Bj (d:=d) (x:=x) (by rw[h1];exact hx)
  rw[e1]
  exact⟨rfl,h7 _ e2⟩
 have hmap:JP names (λa=>(UC d a).bind λx=>.ok (a,x))= .ok (names.map λa=>(a,(Zp d a).getD 1)):=YM (sz (by omega)) λa ha=>by
  unfold UC
  rw[(hsg a ha).1];rfl
 refine Ok.bind (R:=λws:List (List Int)=>ws.length<=4/\ws.flatten.Perm (names.flatMap λx=>[x,-x])) (Ok.ite (λ_=>?_) λ_=>?_) λws hws=>?_
 ·refine Ok.bind (R:=λws:List (List Int)=>ws.length<=4/\ws.flatten.Perm (names.flatMap λx=>[x,-x])) ?_ λws hws=>⟨_,rfl,hws⟩
  refine Ok.bind (Ok.noE (HV (by omega) (by omega))) λl hl2=>?_
  rw[show(2:Int)+r[4]=((2+r[4].toNat:Nat):Int) by omega]
  have hln:=hl2.length_eq
  refine Ok.noE (Ok.imp (DP (sg:=λx=>(Zp d x).getD 1) (by omega) (by omega) (λx hx=>(hsg x (hl2.mem_iff.mp hx)).1) (λx hx=>(hsg x (hl2.mem_iff.mp hx)).2) (by omega) (by omega)) λws hw=>⟨by omega,hw.2.trans (ZY _ hl2)⟩)
 ·refine Ok.bind (R:=λws:List (List Int)=>ws.length<=4/\ws.flatten.Perm (names.flatMap λx=>[x,-x])) ?_ λws hws=>⟨_,rfl,hws⟩
  obtain⟨rings,hrings⟩:∃k:Nat,max r[1] (min (names.length:Int) 1)=(k:Int):=⟨(max r[1] (min (names.length:Int) 1)).toNat,by omega⟩
  rw[hrings]
  refine Ok.noE (Ok.imp (MB (by omega) (by omega) (λhne=>?_) (by omega)) λws hw=>⟨by omega,hw.2⟩)
  have:0<names.length:=List.length_pos_iff.mpr hne
  omega
 ·rw[hmap]
  simp only[Rs.okb]
  have hfst:(names.map λa=>(a,(Zp d a).getD 1)).map Prod.fst=names:=by rw[List.map_map];exact List.map_id' _
  refine⟨_,rfl,?_,?_,?_,?_,hws.1⟩
  ·show(names.map λa=>(a,(Zp d a).getD 1)).length<=most
   simp;omega
  ·show((names.map λa=>(a,(Zp d a).getD 1)).map Prod.fst).Pairwise _
   rw[hfst];exact h5
  ·intro e he
   obtain⟨x,hx,rfl⟩:=List.mem_map.mp he
   have:=h6 x hx
   refine⟨this.1,?_,(hsg x hx).2⟩
   show x<2^62
   omega
  ·show ws.flatten.Perm (((names.map λa=>(a,(Zp d a).getD 1)).map Prod.fst).flatMap λx=>[x,-x])
   rw[hfst];exact hws.2
theorem LE (a b:Bool):IE (.ok a) (.ok b)= .ok (a&&b):=Nj λ_=>rfl
end My
namespace My
noncomputable def Zc (w:List Int):Nat:=(w.filter λx=>decide (x<0)).length
noncomputable def JO (w:List Int):Nat:=max (Zc w) 1
noncomputable def Qy (w:List Int)(first:Int):List Int:=(List.range (max w.length 1)).map λk=>first+(Zc (w.take k):Int) % (JO w:Int)
noncomputable def Y0:List (List Int)->Int->List (List Int)
 | [],_=>[]
 |w::ws,f=>Qy w f::Y0 ws (f+JO w)
noncomputable def XY (ws:List (List Int)):Int:=(ws.map λw=>(JO w:Int)).sum
noncomputable def Vw (ws:List (List Int)):Nat:=(ws.filter λw=>decide (Zc w=0)).length
theorem JF (a b:List Int):Zc (a++b)=Zc a+Zc b:=by unfold Zc;rw[List.filter_append,List.length_append]
theorem Vy {x:Int}(h:x<0):Zc [x]=1:=by simp[Zc,h]
theorem Vx {x:Int}(h:¬x<0):Zc [x]=0:=by simp[Zc,h]
theorem Zt {w:List Int}{i:Nat}{x:Int}(h:w[i]?=some x):Zc (w.take (i+1))=Zc (w.take i)+Zc [x]:=by
 rw[List.take_add_one,h,JF];rfl
theorem Vg (w:List Int)(i j:Nat)(h:i<=j):Zc (w.take i)<=Zc (w.take j):=by
 have e:w.take j=w.take i++(w.take j).drop i:=by
  conv=>lhs;rw[←List.take_append_drop i (w.take j)]
  rw[List.take_take,Nat.min_eq_left h]
 rw[e,JF];omega
theorem Mn (w:List Int)(i:Nat):Zc (w.take i)<=Zc w:=by
 by_cases h:i<=w.length
 ·have:=Vg w i w.length h
  rw[List.take_length] at this;exact this
 ·rw[List.take_of_length_le (by omega)];exact Nat.le_refl _
theorem FC (w:List Int):0<JO w:=by unfold JO;omega
theorem JB (w:List Int)(f:Int):(Qy w f).length=max w.length 1:=by simp[Qy]
theorem Cj (w:List Int)(f:Int){k:Nat}(h:k<max w.length 1):(Qy w f)[k]?=some (f+(Zc (w.take k):Int) % (JO w:Int)):=by
 unfold Qy
 rw[List.getElem?_map,List.getElem?_range h];rfl
theorem Y9:∀(ws:List (List Int)) (f:Int),(Y0 ws f).length=ws.length
 | [],_=>rfl
 |_::ws,f=>by show(Y0 ws _).length+1=_;rw[Y9 ws];rfl
theorem Jk (w:List Int)(ws:List (List Int)):XY (w::ws)=JO w+XY ws:=by simp[XY]
theorem UI (a b:List (List Int)):XY (a++b)=XY a+XY b:=by simp[XY,List.sum_append]
theorem Ca (w:List Int):XY [w]=JO w:=by simp[XY]
theorem J7:∀(a b:List (List Int)) (f:Int),Y0 (a++b) f=Y0 a f++Y0 b (f+XY a)
 | [],b,f=>by simp[Y0,XY]
 |w::a,b,f=>by
  show Qy w f::Y0 (a++b) (f+JO w)=Qy w f::(Y0 a (f+JO w)++Y0 b (f+XY (w::a)))
  rw[J7 a b,Jk,Int.add_assoc]
theorem Q9 {ws:List (List Int)}{i:Nat}{w:List Int}(h:ws[i]?=some w)(f:Int):Y0 (ws.take (i+1)) f=Y0 (ws.take i) f++[Qy w (f+XY (ws.take i))]:=by
 rw[List.take_add_one,h,J7];rfl
theorem Jr {ws:List (List Int)}{i:Nat}{w:List Int}(h:ws[i]?=some w):XY (ws.take (i+1))=XY (ws.take i)+JO w:=by
 rw[List.take_add_one,h,UI]
 show _+XY [w]=_
 rw[Ca]
theorem UU {ws:List (List Int)}{i:Nat}{w:List Int}(h:ws[i]?=some w)(f:Int):(Y0 ws f)[i]?=some (Qy w (f+XY (ws.take i))):=by
 have hl:i<ws.length:=(List.getElem?_eq_some_iff.mp h).1
 have e:ws=ws.take (i+1)++ws.drop (i+1):=(List.take_append_drop _ _).symm
 rw[e,J7,Q9 h,List.getElem?_append_left (by rw[List.length_append,Y9,List.length_take];simp;omega),
  List.getElem?_append_right (by rw[Y9,List.length_take];omega),Y9,List.length_take,Nat.min_eq_left (by omega),Nat.sub_self,List.take_append_of_le_length (by rw[List.length_take];omega),List.take_take,Nat.min_eq_left (by omega)]
 rfl
theorem Vl:∀ws:List (List Int),XY ws=(Zc ws.flatten:Int)+(Vw ws:Int)
 | []=>rfl
 |w::ws=>by
  rw[Jk,Vl ws,List.flatten_cons,JF]
  unfold Vw
  rw[List.filter_cons]
  by_cases h:Zc w=0
  ·simp[h,JO];omega
  ·simp[h,JO];omega
theorem DA {ws:List (List Int)}{i:Nat}{w:List Int}(h:ws[i]?=some w):Vw (ws.take (i+1))=Vw (ws.take i)+(if Zc w=0 then 1 else 0):=by
 unfold Vw
 rw[List.take_add_one,h,List.filter_append,List.length_append]
 by_cases e:Zc w=0<;> simp[e]
theorem BU {a b:List Int}(h:a.Perm b):Zc a=Zc b:=(h.filter _).length_eq
theorem Bn:∀{xs:List Int},(∀x∈xs,1<=x)->Zc (xs.flatMap λx=>[x,-x])=xs.length
 | [],_=>rfl
 |x::xs,h=>by
  have hx:=h x List.mem_cons_self
  rw[List.flatMap_cons,JF,Bn λy hy=>h y (List.mem_cons_of_mem _ hy)]
  have e:Zc [x,-x]=1:=by
   show Zc ([x]++[-x])=1
   rw[JF,Vx (by omega),Vy (by omega)]
  rw[e,List.length_cons];omega
structure LastIs (w:List Int)(i:Nat)(last:Int):Prop where
 lo: -1<=last
 hi:last<(i:Int)
 none:∀j:Nat,last<(j:Int)->j<i->∀x,w[j]?=some x->¬x<0
 at':0<=last->∃x,w[last.toNat]?=some x/\x<0
theorem LastIs.zero (w:List Int):LastIs w 0 (-1):=⟨by omega,by omega,λj _ h=>by omega,λh=>by omega⟩
theorem LastIs.neg {w:List Int}{i:Nat}{x:Int}(e:w[i]?=some x)(hx:x<0):LastIs w (i+1) (i:Int):=
 ⟨by omega,by omega,λj h1 h2=>by omega,λ_=>⟨x,by simpa using e,hx⟩⟩
theorem LastIs.pos {w:List Int}{i:Nat}{x last:Int}(h:LastIs w i last)(e:w[i]?=some x)(hx:¬x<0):LastIs w (i+1) last:=by
 have:=h.hi
 refine⟨h.lo,by omega,λj h1 h2 y hy=>?_,h.at'⟩
 by_cases hj:j=i
 ·subst hj;rw[e] at hy;cases hy;exact hx
 ·exact h.none j h1 (by omega) y hy
theorem Je {w:List Int}{last:Int}(h:LastIs w w.length last):∀j:Nat,last<(j:Int)->Zc (w.take j)=Zc w:=by
 intro j hj
 have key:∀d:Nat,Zc (w.take (j+d))=Zc (w.take j):=λd=>by
  induction d with
  |zero=>rfl
  |succ d ih=>
   cases e:w[j+d]? with
   |none=>
    have:=List.getElem?_eq_none_iff.mp e
    rw[←ih,List.take_of_length_le (by omega),List.take_of_length_le (by omega)]
   |some x=>
    have hl:=(List.getElem?_eq_some_iff.mp e).1
    show Zc (w.take ((j+d)+1))=_
    rw[Zt e,ih,Vx (h.none (j+d) (by omega) hl x e)];rfl
 by_cases hl:j<=w.length
 ·rw[←key (w.length-j),show j+(w.length-j)=w.length by omega,List.take_length]
 ·rw[List.take_of_length_le (by omega)]
theorem Ga {w:List Int}{last:Int}(h:LastIs w w.length last)(h0:0<=last):Zc (w.take last.toNat)+1=Zc w:=by
 obtain⟨x,e,hx⟩:=h.at' h0
 have:=Zt e
 rw[Vy hx] at this
 rw[←this,Je h (last.toNat+1) (by omega)]
theorem Ea {w:List Int}{last:Int}(h:LastIs w w.length last)(h0:¬0<=last):Zc w=0:=by
 have:=h.lo
 rw[←Je h 0 (by omega)];simp[Zc]
theorem BS {w:List Int}{last f:Int}(h:LastIs w w.length last){j:Nat}(hj:(j:Int)<=last):f+(Zc (w.take j):Int) % (JO w:Int)=f+(Zc (w.take j):Int):=by
 have h0:0<=last:=by omega
 have h1:=Ga h h0
 have h2:=Vg w j last.toNat (by omega)
 rw[Int.emod_eq_of_lt (by omega) (by unfold JO;omega)]
theorem E3 {w:List Int}{last f:Int}(h:LastIs w w.length last){j:Nat}(hj:last<(j:Int)):f+(Zc (w.take j):Int) % (JO w:Int)=f:=by
 rw[Je h j hj]
 by_cases e:Zc w=0
 ·rw[e];simp
 ·have:(JO w:Int)=(Zc w:Int):=by unfold JO;omega
  rw[this,Int.emod_self];omega
theorem Bg {w:List Int}{last:Int}(h:LastIs w w.length last):(Zc (w.take last.toNat):Int)+1=(JO w:Int):=by
 by_cases h0:0<=last
 ·have:=Ga h h0
  unfold JO;omega
 ·have e:=Ea h h0
  have:=Mn w last.toNat
  unfold JO;omega
end My
namespace My
structure Spot (ws:List (List Int))(x:Int)(i j:Nat)(w:List Int):Prop where
 wi:ws[i]?=some w
 xj:w[j]?=some x
 first:∀m:Nat,m<j->w[m]?≠some x
 none:∀(i':Nat) (w':List Int),i'<i->ws[i']?=some w'->x∉w'
theorem Spot.uniq {ws:List (List Int)}{x:Int}{i j i' j':Nat}{w w':List Int}(h:Spot ws x i j w)(h':Spot ws x i' j' w'):i=i'/\j=j'/\w=w':=by
 have hi:i=i':=by
  rcases Nat.lt_trichotomy i i' with c |c |c
  ·exact absurd (List.mem_of_getElem? h.xj) (h'.none i w c h.wi)
  ·exact c
  ·exact absurd (List.mem_of_getElem? h'.xj) (h.none i' w' c h'.wi)
 subst hi
 have hw:w=w':=Option.some.inj (h.wi.symm.trans h'.wi)
 subst hw
 refine⟨rfl,?_,rfl⟩
 rcases Nat.lt_trichotomy j j' with c |c |c
 ·exact absurd h.xj (h'.first j c)
 ·exact c
 ·exact absurd h'.xj (h.first j' c)
theorem Spot.row {ws:List (List Int)}{x:Int}{i j:Nat}{w:List Int}(h:Spot ws x i j w):∃r,(Y0 ws 0)[i]?=some r/\r.length=w.length/\j<w.length:=by
 have hj:=(List.getElem?_eq_some_iff.mp h.xj).1
 exact⟨_,UU h.wi 0,by rw[JB];omega,hj⟩
noncomputable def EG (ws:List (List Int))(e:Int×Int)(v:List Int):Prop:=∃ (i j k l:Nat) (w w' r r':List Int) (o a b:Int),Spot ws e.1 i j w/\Spot ws (-e.1) k l w'/\(Y0 ws 0)[i]?=some r/\r[j]?=some o/\(Y0 ws 0)[k]?=some r'/\r'[l]?=some a/\r'[(l+1) % w'.length]?=some b/\v=[e.1,e.2,o,a,b]
theorem EG.uniq {ws:List (List Int)}{e:Int×Int}{v v':List Int}(h:EG ws e v)(h':EG ws e v'):v=v':=by
 obtain⟨i,j,k,l,w,w',r,r',o,a,b,s1,s2,h1,h2,h3,h4,h5,rfl⟩:=h
 obtain⟨i2,j2,k2,l2,x,x',q,q',o2,a2,b2,t1,t2,g1,g2,g3,g4,g5,rfl⟩:=h'
 obtain⟨rfl,rfl,rfl⟩:=s1.uniq t1
 obtain⟨rfl,rfl,rfl⟩:=s2.uniq t2
 rw[h1] at g1;cases g1
 rw[h3] at g3;cases g3
 rw[h2] at g2;cases g2
 rw[h4] at g4;cases g4
 rw[h5] at g5;cases g5
 rfl
theorem FN:∀{w:List Int}{x:Int},x∈w->∃j:Nat,w[j]?=some x/\∀m:Nat,m<j->w[m]?≠some x
 | [],x,h=>by simp at h
 |y::t,x,h=>by
  by_cases e:y=x
  ·subst e
   exact⟨0,rfl,λm hm=>by omega⟩
  ·rcases List.mem_cons.mp h with z |z
   ·exact absurd z.symm e
   ·obtain⟨j,h1,h2⟩:=FN z
    refine⟨j+1,by simpa using h1,λm hm=>?_⟩
    cases m with
    |zero=>simpa using e
    |succ m=>simpa using h2 m (by omega)
end My
namespace My
open PySem L2
section
variable {α β γ ρ:Type}
theorem UA {f:γ->α->Rs (Ctl ρ γ)}{g:γ}{v:ρ}:∀{as:List α}{i:Nat}{a:α},as[i]?=some a->(∀(k:Nat) b,k<i->as[k]?=some b->f g b= .ok (.nx g))->f g a= .ok (.ret v)->forC as g f= .ok (.ret v)
 | [],i,a,h,_,_=>by simp at h
 |b::as,0,a,h,_,hf=>by
  have:b=a:=by simpa using h
  subst this
  show(f g b).bind _=_
  rw[hf,Rs.okb]
 |b::as,i+1,a,h,hb,hf=>by
  show(f g b).bind _=_
  rw[hb 0 b (by omega) rfl,Rs.okb]
  exact UA (i:=i) (by simpa using h) (λk c hk hc=>hb (k+1) c (by omega) (by simpa using hc)) hf
theorem HC {as:List α}{i:Nat}{a:α}(h:as[i]?=some a):(J2 as)[i]?=some ((i:Int),a):=by
 have hi:=(List.getElem?_eq_some_iff.mp h).1
 unfold J2
 rw[List.getElem?_zip_eq_some]
 exact⟨by rw[List.getElem?_map,List.getElem?_range hi];rfl,h⟩
theorem GA {w:List Int}{x:Int}{j:Nat}(h:w[j]?=some x)(hf:∀m:Nat,m<j->w[m]?≠some x):Hr w x= .ok (j:Int):=by
 obtain⟨hj,e⟩:=List.getElem?_eq_some_iff.mp h
 have:w.findIdx? (λb=>decide (b=x))=some j:=by
  rw[List.findIdx?_eq_some_iff_getElem]
  refine⟨hj,by simp[e],λm hm=>?_⟩
  have hml:m<w.length:=by omega
  have:=hf m hm
  rw[List.getElem?_eq_getElem hml] at this
  simpa using this
 unfold Hr
 rw[this]
theorem Jy {N k:Nat}{F G:Nat->α}{v:α}(hk:k<N)(hv:G k=v)(h:∀j,j<N->j≠k->F j=G j):((List.range N).map F).set k v=(List.range N).map G:=by
 refine List.ext_getElem (by simp) λj h1 h2=>?_
 have hj:j<N:=by simpa using h1
 rw[List.getElem_set]
 by_cases e:k=j
 ·subst e;rw[if_pos rfl];simp[hv]
 ·rw[if_neg e];simp[h j hj (λz=>e z.symm)]
theorem E4 (w:List α):DM w none (some (-1))=w.take (w.length-1):=by
 unfold DM
 rw[HT.sIx_none]
 have:HT.sIx w.length w.length (some (-1))=w.length-1:=by
  unfold HT.sIx
  simp
  omega
 rw[this];simp
end
theorem ZQ {w:List Int}(hl:w.length<=1000):XS w= .ok (JO w:Int):=by
 unfold XS
 simp only[Rs.okb]
 rw[JT (p:=λx=>decide (x<0)) (h:=λx=>x) (sz (by omega)) (λ_ _=>rfl) λ_ _ _=>rfl,Rs.okb,List.map_id']
 congr 1
 show max ((Zc w:Nat):Int) 1=((max (Zc w) 1:Nat):Int)
 omega
theorem VU {w:List Int}{f:Int}(hl:w.length<=1000):YR w f= .ok (Qy w f):=by
 unfold YR
 simp only[Rs.okb]
 rw[ZQ hl,Xr]
 simp only[Rs.okb]
 rw[XD (sz (by simp)),E4]
 simp only[Rs.okb]
 apply Ok.eq
 refine Ok.bind (Ok.forN (λi (g:Int×List Int)=>g=((Zc (w.take i):Int),(List.range (i+1)).map λk=>f+(Zc (w.take k):Int) % (JO w:Int))) ?_ λi a g ha hg=>?_) λg hg=>?_
 ·simp[Zc]
 ·have hi:=(List.getElem?_eq_some_iff.mp ha).1
  rw[List.length_take] at hi
  have ha':w[i]?=some a:=by
   rw[List.getElem?_take_of_lt (by omega)] at ha
   exact ha
  subst hg
  have hn:=Zt ha'
  have hp:=FC w
  have hlen:((List.range (i+1)).map λk=>f+(Zc (w.take k):Int) % (JO w:Int)).length<sizeLine:=CA (by simp;omega)
  refine Ok.bind (R:=λu=>u=(Zc (w.take (i+1)):Int)) (Ok.ite (λc=>⟨_,rfl,?_⟩) λc=>⟨_,rfl,?_⟩) λu hu=>?_
  ·rw[hn,Vy (of_decide_eq_true c)]
   show(Zc (w.take i):Int)+1=_
   omega
  ·rw[hn,Vx (of_decide_eq_false c)]
   show(Zc (w.take i):Int)=_
   omega
  ·subst hu
   rw[Yg (by omega),Rs.okb,Rs.okb,XD hlen]
   refine⟨_,rfl,?_⟩
   rw[List.range_succ (n:=i+1),List.map_append];rfl
 ·subst hg
  refine⟨_,rfl,?_⟩
  rw[List.length_take,show min (w.length-1) w.length+1=max w.length 1 by omega]
  rfl
theorem LH {D:List (List Int)×List (Int×Int)}(hd:D.1.length<=1000)(hw:∀w∈D.1,w.length<=1000):U5 D= .ok (Y0 D.1 0):=by
 unfold U5
 simp only[Rs.okb]
 apply Ok.eq
 refine Ok.bind (Ok.forN (λi (g:Int×List (List Int))=>g=(XY (D.1.take i),Y0 (D.1.take i) 0)) rfl λi a g ha hg=>?_) λg hg=>?_
 ·have hi:=(List.getElem?_eq_some_iff.mp ha).1
  subst hg
  have hal:=hw a (List.mem_of_getElem? ha)
  rw[VU hal,Xr,Rs.okb,ZQ hal,Xr]
  rw[XD (CA (by rw[Y9,List.length_take];omega))]
  simp only[Rs.okb]
  refine⟨_,rfl,?_⟩
  rw[Q9 ha,Jr ha,Int.zero_add]
 ·subst hg
  rw[List.take_length]
  exact⟨_,rfl,rfl⟩
theorem QH {D:List (List Int)×List (Int×Int)}(hd:D.1.length<=1000)(hw:∀w∈D.1,w.length<=1000):Yy D= .ok (XY D.1):=by
 unfold Yy
 simp only[Rs.okb]
 rw[YM (h:=λw=>(JO w:Int)) (sz (by omega)) λw h=>by rw[ZQ (hw w h),Xr],Rs.okb]
 rfl
theorem CS {D:List (List Int)×List (Int×Int)}{x:Int}{i j:Nat}{w:List Int}(h:Spot D.1 x i j w):Uy D x= .ok ((i:Int),(j:Int)):=by
 unfold Uy
 simp only[Rs.okb]
 rw[UA (v:=((i:Int),(j:Int))) (HC h.wi) (λk b hk hb=>?_) ?_]
 ·rw[Rs.okb,KO]
 ·rw[if_pos (decide_eq_true (List.mem_of_getElem? h.xj)),GA h.xj h.first]
  simp only[Rs.okb]
 ·obtain⟨_,h2⟩:=V8 hb
  rw[if_neg]
  rw[decide_eq_true_eq]
  exact h.none k b.2 hk h2
theorem Gw {ws:List (List Int)}{x:Int}{i j:Nat}{w:List Int}(hl:ws.length<=1000)(h:Spot ws x i j w):Qj ws x= .ok ((i:Int),(j:Int)):=by
 have hi:=(List.getElem?_eq_some_iff.mp h.wi).1
 unfold Qj
 simp only[Rs.okb]
 rw[Zi (by omega),Rs.okb]
 rw[UA (v:=((i:Int),(j:Int))) (i:=i) (a:=(i:Int)) (by rw[List.getElem?_map,List.getElem?_range hi];rfl) (λk b hk hb=>?_) ?_]
 ·rw[Rs.okb,KO]
 ·rw[YA h.wi]
  simp only[Rs.okb]
  rw[if_pos (decide_eq_true (List.mem_of_getElem? h.xj)),GA h.xj h.first]
  simp only[Rs.okb]
 ·obtain⟨rfl,hkl⟩:=YN hb
  have hks:ws[k]?=some ws[k]:=by simp[hkl]
  rw[YA hks]
  simp only[Rs.okb]
  rw[if_neg]
  rw[decide_eq_true_eq]
  exact h.none k _ hk hks
theorem FZ {D:List (List Int)×List (Int×Int)}(hw:∀w∈D.1,w.length<=1000):Qk D= .ok ((D.2.length:Int)+(Vw D.1:Int)):=by
 unfold Qk
 simp only[Rs.okb]
 apply Ok.eq
 refine Ok.bind (Ok.forN (λi (g:Int)=>g=(D.2.length:Int)+(Vw (D.1.take i):Int)) (by simp[Vw]) λi a g ha hg=>?_) λg hg=>?_
 ·have hal:=hw a (List.mem_of_getElem? ha)
  rw[JT (p:=λx=>decide (x<0)) (h:=λx=>x) (sz (by omega)) (λ_ _=>rfl) λ_ _ _=>rfl,List.map_id']
  simp only[Rs.okb]
  have hz:=DA ha
  have hnn:((a.filter λx=>decide (x<0)).length:Int)=(Zc a:Int):=rfl
  rw[hnn]
  by_cases c:Zc a=0
  ·rw[if_pos c] at hz
   rw[if_pos (decide_eq_true (by omega))]
   simp only[Rs.okb]
   exact⟨_,rfl,by omega⟩
  ·rw[if_neg c] at hz
   rw[if_neg (by rw[decide_eq_true_eq];omega)]
   simp only[Rs.okb]
   exact⟨_,rfl,by omega⟩
 ·subst hg
  rw[List.take_length]
  exact⟨_,rfl,rfl⟩
theorem OD (f:Int)(n:Nat):(List.replicate n [f]).flatten=(List.range n).map λ_=>f:=by
 induction n with
 |zero=>rfl
 |succ n ih=>rw[List.replicate_succ,List.flatten_cons,ih,List.range_succ_eq_map,List.map_cons,List.map_map];rfl
theorem BP {ws:List (List Int)}(hd:ws.length<=1000)(hw:∀w∈ws,w.length<=1000):QQ ws= .ok (Y0 ws 0):=by
 unfold QQ
 simp only[Rs.okb]
 apply Ok.eq
 refine Ok.bind (Ok.forN (λi (g:Int×List (List Int))=>g=(XY (ws.take i),Y0 (ws.take i) 0)) rfl λi w g ha hg=>?_) λg hg=>?_
 ·have hi:=(List.getElem?_eq_some_iff.mp ha).1
  subst hg
  have hal:=hw w (List.mem_of_getElem? ha)
  generalize hf:XY (ws.take i)=f
  rw[Zi (by omega),Rs.okb]
  refine Ok.bind (Ok.forN (λk (l:Int)=>LastIs w k l) (LastIs.zero w) λk b l hb hl=>?_) λlast hlast=>?_
  ·obtain⟨rfl,hk⟩:=YN hb
   have hks:w[k]?=some w[k]:=by simp[hk]
   rw[YA hks]
   simp only[Rs.okb]
   by_cases c:w[k]<0
   ·rw[if_pos (decide_eq_true c),Rs.okb]
    exact⟨_,rfl,LastIs.neg hks c⟩
   ·rw[if_neg (by rw[decide_eq_true_eq];exact c),Rs.okb]
    exact⟨_,rfl,hl.pos hks c⟩
  rw[YE] at hlast
  rw[XD (sz (by simp))]
  simp only[Rs.okb]
  rw[show max (w.length:Int) 1=((max w.length 1:Nat):Int) by omega]
  rw[show G6 [f] ((max w.length 1:Nat):Int)= .ok ((List.range (max w.length 1)).map λ_=>f) from by
   unfold G6
   rw[XD ⟨by omega,by omega,sz (by simp;omega)⟩,Int.toNat_natCast,OD]]
  simp only[Rs.okb]
  have hlb: -1<=last/\last<(w.length:Int):=⟨hlast.lo,hlast.hi⟩
  rw[show last+1=(((last+1).toNat:Nat):Int) by omega,Zi (by omega),Rs.okb]
  refine Ok.bind (Ok.forN (λk (h:List Int×Int×Int)=>h.1=((List.range (max w.length 1)).map λj=>if j<k then f+(Zc (w.take j):Int) else f)/\h.2.1=f+(Zc (w.take (min k last.toNat)):Int)/\h.2.2=f+(Zc (w.take (min k last.toNat)):Int)) ⟨by simp,by simp[Zc],by simp[Zc]⟩ λk b h hb hh=>?_) λh hh=>?_
  ·obtain⟨rfl,hk⟩:=YN hb
   obtain⟨h1,h2,h3⟩:=hh
   have hkl:k<w.length:=by omega
   have hks:w[k]?=some w[k]:=by simp[hkl]
   rw[Nat.min_eq_left (by omega)] at h2 h3
   rw[h1,J6 (by simp;omega),Rs.okb,YA hks]
   simp only[Rs.okb,LE]
   have hset:(((List.range (max w.length 1)).map λj=>if j<k then f+(Zc (w.take j):Int) else f).set k h.2.2)=(List.range (max w.length 1)).map λj=>if j<k+1 then f+(Zc (w.take j):Int) else f:=Jy (by omega) (by rw[if_pos (by omega),h3]) λj hj hne=>by
    by_cases c:j<k
    ·rw[if_pos c,if_pos (by omega)]
    ·rw[if_neg c,if_neg (by omega)]
   rw[hset]
   have hn:=Zt hks
   by_cases c:w[k]<0/\(k:Int)<last
   ·rw[if_pos (by rw[Bool.and_eq_true,decide_eq_true_eq,decide_eq_true_eq];exact c),Rs.okb]
    rw[Vy c.1] at hn
    refine⟨_,rfl,rfl,?_,?_⟩
    ·show h.2.1+1=_
     rw[Nat.min_eq_left (by omega),hn,h2];omega
    ·show h.2.1+1=_
     rw[Nat.min_eq_left (by omega),hn,h2];omega
   ·rw[if_neg (by rw[Bool.and_eq_true,decide_eq_true_eq,decide_eq_true_eq];exact c),Rs.okb]
    have hst:Zc (w.take (min (k+1) last.toNat))=Zc (w.take k):=by
     by_cases c2:(k:Int)<last
     ·have c3:¬w[k]<0:=λz=>c ⟨z,c2⟩
      rw[Vx c3] at hn
      rw[Nat.min_eq_left (by omega),hn,Nat.add_zero]
     ·rw[Nat.min_eq_right (by omega),show last.toNat=k by omega]
    refine⟨_,rfl,rfl,?_,?_⟩
    ·show h.2.1=_
     rw[hst,h2]
    ·show h.2.2=_
     rw[hst,h3]
  ·rw[YE] at hh
   obtain⟨h1,h2,_⟩:=hh
   rw[XD (CA (by rw[Y9,List.length_take];omega))]
   have hce:=Bg hlast
   rw[Nat.min_eq_right (by omega)] at h2
   refine⟨_,rfl,?_⟩
   rw[Q9 ha,Jr ha,Int.zero_add,hf,h1,h2]
   have e1:f+(Zc (w.take last.toNat):Int)+1=f+(JO w:Int):=by omega
   have e2:((List.range (max w.length 1)).map λj=>if j<(last+1).toNat then f+(Zc (w.take j):Int) else f)=Qy w f:=by
    unfold Qy
    refine List.map_congr_left λj _=>?_
    by_cases c:j<(last+1).toNat
    ·rw[if_pos c,BS hlast (by omega)]
    ·rw[if_neg c,E3 hlast (by omega)]
   rw[e1,e2]
 ·subst hg
  rw[List.take_length]
  exact⟨_,rfl,rfl⟩
theorem GU:∀{ws:List (List Int)}{x:Int},x∈ws.flatten->∃i j w,Spot ws x i j w
 | [],x,h=>by simp at h
 |w::ws,x,h=>by
  by_cases c:x∈w
  ·obtain⟨j,h1,h2⟩:=FN c
   exact⟨0,j,w,rfl,h1,h2,λi' w' hi _=>by omega⟩
  ·have hx:x∈ws.flatten:=by
    rw[List.flatten_cons,List.mem_append] at h
    exact h.resolve_left c
   obtain⟨i,j,v,s⟩:=GU hx
   refine⟨i+1,j,v,by simpa using s.wi,s.xj,s.first,λi' w' hi hw=>?_⟩
   cases i' with
   |zero=>
    have:w=w':=by simpa using hw
    exact this▸c
   |succ i'=>exact s.none i' w' (by omega) (by simpa using hw)
theorem V2 (ws:List (List Int)):0<=XY ws:=by
 induction ws with
 |nil=>exact Int.le_refl _
 |cons w ws ih=>rw[Jk];omega
theorem Bm {ws:List (List Int)}{i j:Nat}{w r:List Int}{o:Int}(hw:ws[i]?=some w)(hr:(Y0 ws 0)[i]?=some r)(ho:r[j]?=some o):0<=o/\o<XY ws:=by
 rw[UU hw] at hr
 cases hr
 have hj:=(List.getElem?_eq_some_iff.mp ho).1
 rw[JB] at hj
 rw[Cj w _ hj] at ho
 have ho':=Option.some.inj ho
 have hp:=FC w
 have m0:=Int.emod_nonneg (Zc (w.take j):Int) (show(JO w:Int)≠0 by omega)
 have m1:=Int.emod_lt_of_pos (Zc (w.take j):Int) (show(0:Int)<(JO w:Int) by omega)
 have t0:=V2 (ws.take i)
 have t1:XY ws=XY (ws.take (i+1))+XY (ws.drop (i+1)):=by rw[←UI,List.take_append_drop]
 have t2:=V2 (ws.drop (i+1))
 rw[Jr hw] at t1
 omega
structure DG (D:List (List Int)×List (Int×Int)):Prop where
 few:D.1.length<=1000
 short:∀w∈D.1,w.length<=1000
 le:D.2.length<=1000
 mem:∀e∈D.2,e.1∈D.1.flatten/\ -e.1∈D.1.flatten
 sg:∀e∈D.2,e.2=1∨e.2= -1
 count:XY D.1=(D.2.length:Int)+(Vw D.1:Int)
noncomputable def MG (N:Int)(m:Int×Int×Int×Int×Int):Prop:=(m.2.1=1∨m.2.1= -1)/\(0<=m.2.2.1/\m.2.2.1<N)/\(0<=m.2.2.2.1/\m.2.2.2.1<N)/\(0<=m.2.2.2.2/\m.2.2.2.2<N)
theorem Dw {D:List (List Int)×List (Int×Int)}(h:DG D):∃ms,ZN D= .ok ms/\ZW D= .ok ms/\ms.length=D.2.length/\∀m∈ms,MG (XY D.1) m:=by
 have key:∀e:Int×Int,∃v:Int×Int×Int×Int×Int,e∈D.2->∃(i j k l:Nat) (w w' r r':List Int),Spot D.1 e.1 i j w/\Spot D.1 (-e.1) k l w'/\(Y0 D.1 0)[i]?=some r/\r[j]?=some v.2.2.1/\(Y0 D.1 0)[k]?=some r'/\r'.length=w'.length/\0<w'.length/\r'[l]?=some v.2.2.2.1/\r'[(l+1) % w'.length]?=some v.2.2.2.2/\v.1=e.1/\v.2.1=e.2:=λe=>by
  by_cases he:e∈D.2
  ·obtain⟨i,j,w,s1⟩:=GU (h.mem e he).1
   obtain⟨k,l,w',s2⟩:=GU (h.mem e he).2
   obtain⟨r,hr,hrl,hj⟩:=s1.row
   obtain⟨r',hr',hrl',hl⟩:=s2.row
   have hm:(l+1) % w'.length<r'.length:=by rw[hrl'];exact Nat.mod_lt _ (by omega)
   exact⟨(e.1,e.2,r[j],r'[l],r'[(l+1) % w'.length]),λ_=>⟨i,j,k,l,w,w',r,r',s1,s2,hr,by simp,hr',hrl',by omega,by simp,by simp,rfl,rfl⟩⟩
  ·exact⟨(0,0,0,0,0),λz=>absurd z he⟩
 obtain⟨v,hv⟩:=Classical.axiomOfChoice key
 refine⟨D.2.map v,?_,?_,by simp,λm hm=>?_⟩
 ·unfold ZN
  simp only[Rs.okb]
  rw[LH h.few h.short,Xr]
  simp only[Rs.okb]
  rw[ZU (h:=v) (sz (by have:=h.le;simp;omega)) λg hg e he=>?_]
  ·rw[Rs.okb,List.nil_append]
  ·obtain⟨i,j,k,l,w,w',r,r',s1,s2,h1,h2,h3,h4,h5,h6,h7,h8,h9⟩:=hv e he
   have hm:((l:Int)+1) % (r'.length:Int)=(((l+1) % w'.length:Nat):Int):=by rw[h4,Int.natCast_emod];rfl
   rw[CS s1,CS s2,Xr,Xr]
   simp only[Rs.okb]
   rw[YA h1,YA h3]
   simp only[Rs.okb]
   rw[YA h2,YA h6]
   simp only[Rs.okb]
   rw[Yg (by omega),hm]
   simp only[Rs.okb]
   rw[YA h7]
   simp only[Rs.okb]
   rw[XD hg]
   congr 2
   rw[←h8, ←h9]
 ·unfold ZW
  simp only[Rs.okb]
  rw[BP h.few h.short,Xr]
  simp only[Rs.okb]
  rw[ZU (h:=v) (sz (by have:=h.le;simp;omega)) λg hg e he=>?_]
  ·rw[Rs.okb,List.nil_append]
  ·obtain⟨i,j,k,l,w,w',r,r',s1,s2,h1,h2,h3,h4,h5,h6,h7,h8,h9⟩:=hv e he
   have hm:((l:Int)+1) % (w'.length:Int)=(((l+1) % w'.length:Nat):Int):=by rw[Int.natCast_emod];rfl
   rw[Gw h.few s1,Gw h.few s2,Xr,Xr]
   simp only[Rs.okb]
   rw[YA s2.wi]
   simp only[Rs.okb]
   rw[Yg (by omega),hm]
   simp only[Rs.okb]
   rw[YA h1,YA h3]
   simp only[Rs.okb]
   rw[YA h2,YA h6]
   simp only[Rs.okb]
   rw[YA h7]
   simp only[Rs.okb]
   rw[XD hg]
   congr 2
   rw[←h8, ←h9]
 ·obtain⟨e,he,rfl⟩:=List.mem_map.mp hm
  obtain⟨i,j,k,l,w,w',r,r',s1,s2,h1,h2,h3,h4,h5,h6,h7,h8,h9⟩:=hv e he
  exact⟨by rw[h9];exact h.sg e he,Bm s1.wi h1 h2,Bm s2.wi h3 h6,Bm s2.wi h3 h7⟩
theorem DG.of {most:Nat}{D:List (List Int)×List (Int×Int)}(h:Drawn most D)(hm:most<=100):DG D where
 few:=by have:=h.few;omega
 short:=λw hw=>by
  have h1:=h.perm.length_eq
  rw[QI,List.length_map] at h1
  have h2:=(List.sublist_flatten_of_mem hw).length_le
  have:=h.le
  omega
 le:=by have:=h.le;omega
 mem:=λe he=>by
  have hm:e.1∈D.2.map Prod.fst:=List.mem_map.mpr ⟨e,he,rfl⟩
  exact⟨h.perm.mem_iff.mpr (List.mem_flatMap.mpr ⟨_,hm,by simp⟩),h.perm.mem_iff.mpr (List.mem_flatMap.mpr ⟨_,hm,by simp⟩)⟩
 sg:=λe he=>(h.pos e he).2.2
 count:=by
  rw[Vl,BU h.perm,Bn λx hx=>?_,List.length_map]
  obtain⟨e,he,rfl⟩:=List.mem_map.mp hx
  exact(h.pos e he).1
theorem DG.other {D:List (List Int)×List (Int×Int)}(h:DG D):DG (D.1,D.2.map λe=>(e.1,-e.2)) where
 few:=h.few
 short:=h.short
 le:=by rw[List.length_map];exact h.le
 mem:=λe he=>by
  obtain⟨x,hx,rfl⟩:=List.mem_map.mp he
  exact h.mem x hx
 sg:=λe he=>by
  obtain⟨x,hx,rfl⟩:=List.mem_map.mp he
  have:=h.sg x hx
  show-x.2=1∨ -x.2= -1
  omega
 count:=by rw[List.length_map];exact h.count
theorem Ia (ws:List (List Int)):Vw ws<=ws.length:=by
 unfold Vw
 exact List.length_filter_le ..
theorem BM {D:List (List Int)×List (Int×Int)}(h:D.1.length<=1000):Q7 D= .ok D:=by
 unfold Q7
 simp only[Rs.okb]
 rw[YM (h:=λa=>a) (sz (by omega)) λ_ _=>rfl,List.map_id',Rs.okb]
noncomputable def XU (m:Int×Int×Int×Int×Int):Int×Int×Int:=if m.2.1=1 then(m.2.2.2.1,m.2.2.1,m.2.2.2.2) else(m.2.2.2.2,m.2.2.1,m.2.2.2.1)
theorem Bk {D:List (List Int)×List (Int×Int)}{ms:List (Int×Int×Int×Int×Int)}(h:ZN D= .ok ms)(hl:ms.length<=1000):Vh D= .ok (ms.map XU):=by
 unfold Vh
 simp only[Rs.okb]
 rw[h,Xr]
 simp only[Rs.okb]
 rw[ZU (h:=XU) (sz (by simp;omega)) λg hg e he=>?_]
 ·rw[Rs.okb,List.nil_append]
 ·unfold XU
  by_cases s:e.2.1=1
  ·rw[if_pos (decide_eq_true s),if_pos s]
   simp only[Rs.okb]
   exact XD hg
  ·rw[if_neg (by rw[decide_eq_true_eq];exact s),if_neg s]
   simp only[Rs.okb]
   exact XD hg
theorem Eu {γ ρ:Type}{c:γ->Rs Bool}{f:γ->Rs (Ctl ρ γ)}(P:γ->Prop)(μ:γ->Nat)(hs:∀g,P g->∃b,c g= .ok b/\(b=true->∃g',f g= .ok (.nx g')/\P g'/\μ g'<μ g))(n:Nat):∀g:γ,P g->μ g<n->∃g',Vo n g c f= .ok (.nx g'):=by
 induction n with
 |zero=>intro g _ h;omega
 |succ n ih=>
  intro g hp h
  obtain⟨b,eb,hb⟩:=hs g hp
  rw[Vo,eb,Rs.okb]
  cases b with
  |false=>exact⟨g,rfl⟩
  |true=>
   obtain⟨g',e,p',l⟩:=hb rfl
   rw[if_pos rfl,e,Rs.okb]
   exact ih g' p' (by omega)
noncomputable def L0 (g:Int):Bool:=(((JN 2 317).filter λa=>decide (a*a<=g)).map λa=>decide (0<g % a)).all id
theorem N7 {a:Int}:a∈JN 2 317↔2<=a/\a<317:=by
 unfold JN
 rw[List.mem_map]
 constructor
 ·rintro⟨i,hi,rfl⟩
  have:=List.mem_range.mp hi
  omega
 ·rintro⟨h1,h2⟩
  exact⟨(a-2).toNat,List.mem_range.mpr (by omega),by omega⟩
theorem B0 {g:Int}(h:L0 g=true){a:Int}(h1:2<=a)(h2:a<317)(h3:a*a<=g):0<g % a:=by
 unfold L0 at h
 have:=List.all_eq_true.mp h _ (List.mem_map.mpr ⟨a,List.mem_filter.mpr ⟨N7.mpr ⟨h1,h2⟩,decide_eq_true h3⟩,rfl⟩)
 exact of_decide_eq_true this
noncomputable def PP (p:Int):Prop:=2<=p/\p<=99991/\L0 p=true
theorem GW {p:Int}(h:PP p):ZK p= .ok true:=by
 obtain⟨h1,h2,h3⟩:=h
 unfold ZK
 simp only[Rs.okb]
 rw[decide_eq_false (show ¬p<2 by omega),decide_eq_false (show ¬100000<p by omega),show orR (Rs.ok false) (Rs.ok false)= .ok false from rfl,Rs.okb,if_neg (by decide)]
 obtain⟨g,e⟩:=Eu (c:=λg10:Int=>(Rs.bind (Qr g10 g10) λx14=>Rs.ok (decide (x14<=p)))) (f:=λg10:Int=>Rs.bind (Rs.bind (Z2 p g10) λx18=>Rs.ok (decide (x18=(0:Int)))) λx20=>(if x20=true then Rs.ok (Ctl.ret false) else((λ(a23:Int)=>Rs.ok (Ctl.nx a23)) (g10+(1:Int))))) (λg:Int=>2<=g/\g<=317) (λg=>(p+2-g).toNat) (λg hg=>by
  obtain⟨g2,g3⟩:=hg
  refine⟨decide (g*g<=p),by rw[YK (by omega) (by omega),Rs.okb],λc=>?_⟩
  have c:g*g<=p:=of_decide_eq_true c
  have c1:g≠317:=λz=>by subst z;omega
  have c2:2*g<=g*g:=Int.mul_le_mul_of_nonneg_right g2 (by omega)
  have c3:=B0 h3 g2 (by omega) c
  refine⟨g+1,?_,⟨by omega,by omega⟩,by omega⟩
  rw[Yg (by omega),Rs.okb,Rs.okb,decide_eq_false (by omega),if_neg (by decide)]) (p.natAbs+2) 2 ⟨by decide,by decide⟩ (by omega)
 rw[e,Rs.okb,Dq]
theorem J0 {K:Nat}{s:Int}{F:Nat->Int}(h0:0<=s)(h1:s<(K:Int)):atR ((List.range K).map F) s= .ok (F s.toNat):=by
 rw[Zh (n:=s.toNat) (by omega) (by simp;omega)]
 simp
theorem JD {K:Nat}{s v:Int}{F:Nat->Int}(h0:0<=s)(h1:s<(K:Int)):QO ((List.range K).map F) s (F s.toNat+v)= .ok ((List.range K).map λi=>F i+if(i:Int)=s then v else 0):=by
 obtain⟨k,rfl⟩:∃k:Nat,s=k:=⟨s.toNat,by omega⟩
 rw[J6 (by simp;omega),Int.toNat_natCast,Jy (G:=λi=>F i+if(i:Int)=(k:Int) then v else 0) (by omega) (by rw[if_pos rfl]) λj _ h=>?_]
 rw[if_neg (by omega),Int.add_zero]
theorem Dl {K:Nat}{s v:Int}{F:Nat->Int}(h0:0<=s)(h1:s<(K:Int)):QO ((List.range K).map F) s (F s.toNat-v)= .ok ((List.range K).map λi=>F i+if(i:Int)=s then-v else 0):=by
 rw[Int.sub_eq_add_neg]
 exact JD h0 h1
theorem HS {K:Nat}{s u v:Int}{F:Nat->Int}(h0:0<=s)(h1:s<(K:Int)):QO ((List.range K).map F) s (F s.toNat+u-v)= .ok ((List.range K).map λi=>F i+if(i:Int)=s then u-v else 0):=by
 rw[Int.add_sub_assoc]
 exact JD h0 h1
noncomputable def cfT (f:Int)(t:Int×Int×Int)(i:Nat):Int:=0+(if(i:Int)=t.1 then f else 0)+(if(i:Int)=t.2.1 then 1-f else 0)+(if(i:Int)=t.2.2 then-1 else 0)
noncomputable def eqT (K:Nat)(p f:Int)(t:Int×Int×Int):List Int:=(List.range K).map λi=>cfT f t i % p
section
variable {D:List (List Int)×List (Int×Int)}{K:Nat}{p f:Int}{ms:List (Int×Int×Int×Int×Int)}
theorem Ot (h:K<=900):G6 [(0:Int)] (K:Int)= .ok ((List.range K).map λ_=>0):=by
 unfold G6
 rw[XD ⟨by omega,by omega,sz (by simp;omega)⟩,Int.toNat_natCast,OD]
theorem Bw {N:Int}{m:Int×Int×Int×Int×Int}(h:MG N m):(0<=(XU m).1/\(XU m).1<N)/\(0<=(XU m).2.1/\(XU m).2.1<N)/\(0<=(XU m).2.2/\(XU m).2.2<N):=by
 obtain⟨_,h1,h2,h3⟩:=h
 unfold XU
 by_cases c:m.2.1=1
 ·rw[if_pos c];exact⟨h2,h1,h3⟩
 ·rw[if_neg c];exact⟨h3,h1,h2⟩
theorem Bh (hK:K<=900)(hp:0<p)(t:Int×Int×Int):JP ((List.range K).map λi=>cfT f t i) (λa46=>Z2 a46 p)= .ok (eqT K p f t):=by
 rw[YM (h:=λa=>a % p) (sz (by simp;omega)) λa _=>Yg hp,List.map_map]
 rfl
theorem Vp (h:DG D)(hK:XY D.1=(K:Int))(hK2:K<=900)(hp:PP p)(hf:¬f % p=0)(e1:ZN D= .ok ms)(hl:ms.length<=1000)(hm:∀m∈ms,MG (K:Int) m):Y2 D p f= .ok ((ms.map XU).map (eqT K p f)):=by
 have hp0:0<p:=by have:=hp.1;omega
 unfold Y2
 simp only[Rs.okb]
 rw[show YV p f= .ok () from by
  unfold YV
  simp only[Rs.okb]
  rw[GW hp,Xr]
  simp only[Rs.okb]
  rw[if_neg (by decide),Yg hp0,Rs.okb,Rs.okb,decide_eq_false hf,if_neg (by decide)]]
 rw[Xr,Rs.okb,QH h.few h.short,hK,Xr,Rs.okb,Bk e1 hl,Xr,Rs.okb]
 rw[ZU (h:=eqT K p f) (sz (by simp;omega)) λg hg t ht=>?_]
 ·rw[Rs.okb,List.nil_append]
 ·obtain⟨m,hmm,rfl⟩:=List.mem_map.mp ht
  obtain⟨a,b,c⟩:=Bw (hm m hmm)
  have hmod:=Bh (f:=f) hK2 hp0 (XU m)
  unfold cfT at hmod
  rw[XD (sz (by simp)),Rs.okb,Ot hK2,Rs.okb,J0 a.1 a.2,Rs.okb,JD (F:=λ_=>0) a.1 a.2,Rs.okb,J0 b.1 b.2,Rs.okb,JD (F:=λi=>0+if(i:Int)=(XU m).1 then f else 0) b.1 b.2,Rs.okb,J0 c.1 c.2,Rs.okb,Dl (F:=λi=>0+(if(i:Int)=(XU m).1 then f else 0)+if(i:Int)=(XU m).2.1 then 1-f else 0) c.1 c.2,Rs.okb,hmod,Rs.okb]
  exact XD hg
theorem UB (h:DG D)(hK:XY D.1=(K:Int))(hK2:K<=900)(hp:PP p)(e1:ZW D= .ok ms)(hl:ms.length<=1000)(hm:∀m∈ms,MG (K:Int) m):Y7 D p f= .ok ((ms.map XU).map (eqT K p f)):=by
 have hp0:0<p:=by have:=hp.1;omega
 unfold Y7
 simp only[Rs.okb]
 rw[e1,Xr,Rs.okb,List.map_map,FZ h.short, ←h.count,hK]
 rw[ZU (h:=(eqT K p f)∘XU) (sz (by simp;omega)) λg hg m hmm=>?_]
 ·rw[Rs.okb,List.nil_append]
 ·have hs:(if decide (m.2.1<0)=true then Rs.ok (m.2.2.2.2,m.2.2.2.1) else Rs.ok (m.2.2.2.1,m.2.2.2.2))= .ok ((XU m).1,(XU m).2.2):=by
   unfold XU
   rcases(hm m hmm).1 with s |s
   ·rw[if_neg (by rw[decide_eq_true_eq];omega),if_pos s]
   ·rw[if_pos (by rw[decide_eq_true_eq];omega),if_neg (by omega)]
  have ho:m.2.2.1=(XU m).2.1:=by
   unfold XU
   split<;> rfl
  obtain⟨a,b,c⟩:=Bw (hm m hmm)
  have hmod:=Bh (f:=f) hK2 hp0 (XU m)
  unfold cfT at hmod
  rw[hs,ho,Xr,XD (sz (by simp))]
  simp only[Rs.okb]
  rw[Ot hK2,Rs.okb,J0 a.1 a.2,Rs.okb,Rs.okb,JD (F:=λ_=>0) a.1 a.2,Rs.okb,J0 b.1 b.2,Rs.okb,Rs.okb,Rs.okb,HS (F:=λi=>0+if(i:Int)=(XU m).1 then f else 0) b.1 b.2,Rs.okb,J0 c.1 c.2,Rs.okb,Rs.okb,Dl (F:=λi=>0+(if(i:Int)=(XU m).1 then f else 0)+if(i:Int)=(XU m).2.1 then 1-f else 0) c.1 c.2,Rs.okb,hmod,Rs.okb]
  exact XD hg
theorem Lz (t:Int×Int×Int):(eqT K p f t).length=K:=by simp[eqT]
theorem Ni (hp:PP p)(t:Int×Int×Int):∀x∈eqT K p f t,0<=x/\x<100000:=λx hx=>by
 obtain⟨i,_,rfl⟩:=List.mem_map.mp hx
 obtain⟨h1,h2,_⟩:=hp
 have:=Int.emod_nonneg (cfT f t i) (show p≠0 by omega)
 have:=Int.emod_lt_of_pos (cfT f t i) (show 0<p by omega)
 show 0<=cfT f t i % p/\cfT f t i % p<100000
 omega
theorem BV (L:List Nat)(F G:Nat->Int):(L.map λi=>F i+G i).sum=(L.map F).sum+(L.map G).sum:=by
 induction L with
 |nil=>rfl
 |cons a L ih=>simp only[List.map_cons,List.sum_cons,ih];omega
end
section
variable {D:List (List Int)×List (Int×Int)}{K:Nat}{p f:Int}{ms:List (Int×Int×Int×Int×Int)}
noncomputable def dot (l c:List Int):Int:=((l.zip c).map λa=>a.1*a.2).sum
theorem BQ {l c:List Int}(hl:l.length<=1000)(hb:∀x∈l,0<=x/\x<100000):QX l c= .ok (dot l c):=by
 unfold QX
 simp only[Rs.okb]
 rw[YM (h:=λa:Int×Int=>a.1*a.2) (sz (by simp;omega)) λa ha=>?_,Rs.okb]
 ·rfl
 ·have:=hb a.1 (List.of_mem_zip (a:=a.1) (b:=a.2) ha).1
  exact YK (by omega) (by omega)
theorem MA {l c:List Int}(hl:l.length<=1000)(hc:c.length=l.length)(hb:∀x∈l,0<=x/\x<100000):DT l c= .ok (dot l c):=by
 unfold DT
 simp only[Rs.okb]
 rw[Zi (by omega),Rs.okb,YM (h:=λa:Int=>l.getD a.toNat 0*c.getD a.toNat 0) (sz (by simp;omega)) λa ha=>?_,Rs.okb]
 ·unfold dot
  congr 2
  refine List.ext_getElem (by simp;omega) λj h1 h2=>?_
  have h3:j<l.length:=by simpa using h1
  simp[h3,hc]
 ·obtain⟨i,hi,rfl⟩:=ZT ha
  have:=hb _ (List.getElem_mem hi)
  rw[Zh (r:=l) (n:=i) rfl hi,Rs.okb,Zh (r:=c) (n:=i) rfl (by omega),Rs.okb,YK (by omega) (by omega)]
  simp[hi,hc]
theorem E7 {c:List Int}(h:DG D)(hK:XY D.1=(K:Int))(hK2:K<=900)(hp:PP p)(hf:¬f % p=0)(e1:ZN D= .ok ms)(hl:ms.length<=1000)(hm:∀m∈ms,MG (K:Int) m):Vb D p f c= .ok (((ms.map XU).map (eqT K p f)).all λl=>decide (dot l c % p=0)):=by
 have hp0:0<p:=by have:=hp.1;omega
 unfold Vb
 simp only[Rs.okb]
 rw[Vp h hK hK2 hp hf e1 hl hm,Xr,Rs.okb,YM (h:=λl=>decide (dot l c % p=0)) (sz (by simp;omega)) λl hl=>?_,Rs.okb]
 ·rw[List.all_map]
  rfl
 ·obtain⟨t,_,rfl⟩:=List.mem_map.mp hl
  rw[BQ (by rw[Lz];omega) (Ni hp t),Xr,Rs.okb,Yg hp0,Rs.okb]
end
noncomputable def ch:Nat->Nat->Nat
 |_,0=>1
 |0,_+1=>0
 |n+1,k+1=>ch n k+ch n (k+1)
theorem KE (n:Nat):ch n 0=1:=by cases n<;> rfl
theorem Uh (n k:Nat):ch (n+1) (k+1)=ch n k+ch n (k+1):=rfl
theorem E6:∀(n k:Nat),n<k->ch n k=0:=by
 intro n
 induction n with
 |zero=>intro k h;cases k with
  |zero=>omega
  |succ k=>rfl
 |succ n ih=>intro k h;cases k with
  |zero=>omega
  |succ k=>rw[Uh,ih k (by omega),ih (k+1) (by omega)]
theorem LA (n:Nat):ch n n=1:=by
 induction n with
 |zero=>rfl
 |succ n ih=>rw[Uh,ih,E6 n (n+1) (by omega)]
theorem Cy:∀(n k:Nat),(k+1)*ch (n+1) (k+1)=(n+1)*ch n k:=by
 intro n
 induction n with
 |zero=>
  intro k
  cases k with
  |zero=>rfl
  |succ k=>rw[E6 1 (k+2) (by omega),E6 0 (k+1) (by omega)];omega
 |succ n ih=>
  intro k
  rw[Uh,Nat.mul_add,ih k]
  cases k with
  |zero=>rw[KE,KE];omega
  |succ j=>
   rw[Nat.succ_mul (j+1),ih j,Uh n j,Nat.mul_add (n+1+1),Nat.succ_mul (n+1),Nat.succ_mul (n+1)]
   omega
noncomputable def Zg (f:Nat->Nat):Nat->Nat
 |0=>0
 |n+1=>Zg f n+f n
theorem JV (f:Nat->Nat)(n:Nat):Zg f (n+1)=f 0+Zg (λk=>f (k+1)) n:=by
 induction n with
 |zero=>show 0+f 0=f 0+0;omega
 |succ n ih=>
  show Zg f (n+1)+f (n+1)=f 0+(Zg (λk=>f (k+1)) n+f (n+1))
  rw[ih];omega
theorem GY {f g:Nat->Nat}:∀n,(∀k,k<n->f k=g k)->Zg f n=Zg g n:=by
 intro n
 induction n with
 |zero=>intro _;rfl
 |succ n ih=>
  intro h
  show Zg f n+f n=Zg g n+g n
  rw[ih λk hk=>h k (by omega),h n (by omega)]
theorem Eb (f g:Nat->Nat)(n:Nat):Zg (λk=>f k+g k) n=Zg f n+Zg g n:=by
 induction n with
 |zero=>rfl
 |succ n ih=>
  show Zg (λk=>f k+g k) n+(f n+g n)=Zg f n+f n+(Zg g n+g n)
  rw[ih];omega
theorem B6 (c:Nat)(f:Nat->Nat)(n:Nat):Zg (λk=>c*f k) n=c*Zg f n:=by
 induction n with
 |zero=>rfl
 |succ n ih=>
  show Zg (λk=>c*f k) n+c*f n=c*(Zg f n+f n)
  rw[ih,Nat.mul_add]
theorem Ol (a n:Nat):(a+1)^n=Zg (λk=>ch n k*a^k) (n+1):=by
 induction n with
 |zero=>rfl
 |succ n ih=>
  have h1:Zg (λk=>ch n k*a^k) (n+2)=Zg (λk=>ch n k*a^k) (n+1):=by
   show Zg (λk=>ch n k*a^k) (n+1)+ch n (n+1)*a^(n+1)=_
   rw[E6 n (n+1) (by omega),Nat.zero_mul,Nat.add_zero]
  rw[JV] at h1
  rw[JV]
  have h2:Zg (λk=>ch (n+1) (k+1)*a^(k+1)) (n+1)=a*Zg (λk=>ch n k*a^k) (n+1)+Zg (λk=>ch n (k+1)*a^(k+1)) (n+1):=by
   rw[←B6, ←Eb]
   refine GY _ λk _=>?_
   rw[Uh,Nat.add_mul]
   congr 1
   rw[Nat.pow_succ,Nat.mul_comm (a^k) a,Nat.mul_left_comm]
  rw[h2,Nat.pow_succ,ih,Nat.mul_add,Nat.mul_one,Nat.mul_comm _ a]
  simp only[KE,Nat.pow_zero,Nat.mul_one] at h1⊢
  omega
noncomputable def Mu (p:Nat):Prop:=2<=p/\∀d,d∣p->d=1∨d=p
theorem Mu.cop {p:Nat}(h:Mu p){k:Nat}(hk:¬p∣k):Nat.Coprime p k:=by
 rcases h.2 (Nat.gcd p k) (Nat.gcd_dvd_left p k) with e |e
 ·exact e
 ·exact absurd (e▸Nat.gcd_dvd_right p k) hk
theorem NJ {p:Nat}(h:Mu p){k:Nat}(h0:0<k)(h1:k<p):p∣ch p k:=by
 obtain⟨j,rfl⟩:∃j,k=j+1:=⟨k-1,by omega⟩
 obtain⟨q,rfl⟩:∃q,p=q+1:=⟨p-1,by omega⟩
 have e:=Cy q j
 have hd:(q+1)∣(j+1)*ch (q+1) (j+1):=⟨_,e⟩
 exact(h.cop (λz=>by have:=Nat.le_of_dvd (by omega) z;omega)).dvd_of_dvd_mul_left hd
theorem EK {p:Nat}{f:Nat->Nat}:∀n,(∀k,k<n->p∣f k)->p∣Zg f n:=by
 intro n
 induction n with
 |zero=>intro _;exact Nat.dvd_zero p
 |succ n ih=>intro h;exact Nat.dvd_add (ih λk hk=>h k (by omega)) (h n (by omega))
theorem M7 {p:Nat}(h:Mu p)(a:Nat):a^p % p=a % p:=by
 induction a with
 |zero=>rw[Nat.zero_pow (by have:=h.1;omega)]
 |succ a ih=>
  obtain⟨q,rfl⟩:∃q,p=q+1:=⟨p-1,by have:=h.1;omega⟩
  rw[Ol]
  have e:Zg (λk=>ch (q+1) k*a^k) (q+1+1)=Zg (λk=>ch (q+1) (k+1)*a^(k+1)) q+(1+a^(q+1)):=by
   show Zg (λk=>ch (q+1) k*a^k) (q+1)+ch (q+1) (q+1)*a^(q+1)=_
   rw[JV,KE,LA,Nat.pow_zero];omega
  have hd:(q+1)∣Zg (λk=>ch (q+1) (k+1)*a^(k+1)) q:=EK q λk hk=>Nat.dvd_mul_right_of_dvd (NJ h (by omega) (by omega)) _
  obtain⟨z,hz⟩:=hd
  rw[e,hz,Nat.mul_add_mod,Nat.add_mod,ih, ←Nat.add_mod,Nat.add_comm]
theorem LL {p:Nat}(h:Mu p){a:Nat}(ha:¬p∣a):(a*a^(p-2)) % p=1:=by
 obtain⟨q,rfl⟩:∃q,p=q+2:=⟨p-2,by have:=h.1;omega⟩
 show a*a^q % (q+2)=1
 have hf:=M7 h a
 have hpos:0<a:=Nat.pos_of_ne_zero λz=>ha (by rw[z];exact Nat.dvd_zero _)
 have h1:1<=a^(q+1):=Nat.one_le_pow _ _ hpos
 have e:a^(q+2)=a*a^(q+1):=by rw[Nat.pow_succ,Nat.mul_comm]
 have hle:a<=a^(q+2):=by rw[e];exact Nat.le_mul_of_pos_right a h1
 have hd:(q+2)∣a^(q+2)-a:=Nat.dvd_of_mod_eq_zero (Nat.sub_mod_eq_zero_of_mod_eq hf)
 have e2:a^(q+2)-a=a*(a^(q+1)-1):=by rw[e,Nat.mul_sub,Nat.mul_one]
 rw[e2] at hd
 have hd2:=(h.cop ha).dvd_of_dvd_mul_left hd
 have e3:a*a^q=a^(q+1):=by rw[Nat.pow_succ,Nat.mul_comm]
 rw[e3]
 obtain⟨z,hz⟩:=hd2
 have:a^(q+1)=1+(q+2)*z:=by omega
 rw[this,Nat.add_mul_mod_self_left]
 exact Nat.mod_eq_of_lt (by omega)
noncomputable def Cg (p x y:Int):Prop:=p∣x-y
section
variable {p x y z u v:Int}
theorem Cg.refl (p x:Int):Cg p x x:=⟨0,by omega⟩
theorem Cg.of (h:x=y):Cg p x y:=h▸Cg.refl p x
theorem Cg.symm (h:Cg p x y):Cg p y x:=by
 obtain⟨c,h⟩:=h
 exact⟨-c,by rw[Int.mul_neg];omega⟩
theorem Cg.trans (h:Cg p x y)(g:Cg p y z):Cg p x z:=by
 obtain⟨c,h⟩:=h
 obtain⟨d,g⟩:=g
 exact⟨c+d,by rw[Int.mul_add];omega⟩
theorem Cg.add (h:Cg p x y)(g:Cg p u v):Cg p (x+u) (y+v):=by
 obtain⟨c,h⟩:=h
 obtain⟨d,g⟩:=g
 exact⟨c+d,by rw[Int.mul_add];omega⟩
theorem Cg.mul (h:Cg p x y)(g:Cg p u v):Cg p (x*u) (y*v):=by
 obtain⟨c,h⟩:=h
 obtain⟨d,g⟩:=g
 have e1:x=y+p*c:=by omega
 have e2:u=v+p*d:=by omega
 refine⟨c*u+y*d,?_⟩
 have:x*u=y*u+p*(c*u):=by rw[e1,Int.add_mul,Int.mul_assoc]
 rw[this,e2,Int.mul_add y,Int.mul_add p,Int.mul_left_comm y p d]
 omega
theorem Cg.sub (h:Cg p x y)(g:Cg p u v):Cg p (x-u) (y-v):=by
 obtain⟨c,h⟩:=h
 obtain⟨d,g⟩:=g
 exact⟨c-d,by rw[Int.mul_sub];omega⟩
theorem Cg.emod (p x:Int):Cg p (x % p) x:=⟨-(x/p),by rw[Int.emod_def,Int.mul_neg];omega⟩
theorem Cg.pow (h:Cg p x y)(n:Nat):Cg p (x^n) (y^n):=by
 induction n with
 |zero=>rw[Int.pow_zero,Int.pow_zero];exact Cg.refl ..
 |succ n ih=>rw[Int.pow_succ,Int.pow_succ];exact ih.mul h
theorem Cg.eq (h:Cg p x y)(h1:0<=x/\x<p)(h2:0<=y/\y<p):x=y:=by
 have e:(x-y) % p=0:=Int.emod_eq_zero_of_dvd h
 have:=Int.emod_emod_of_dvd
 have e2:x % p=y % p:=Int.emod_eq_emod_iff_emod_sub_eq_zero.mpr e
 rwa [Int.emod_eq_of_lt h1.1 h1.2,Int.emod_eq_of_lt h2.1 h2.2] at e2
theorem Cg.rest (h:Cg p x y)(h2:0<=y/\y<p):x % p=y:=by
 have e:(x-y) % p=0:=Int.emod_eq_zero_of_dvd h
 have e2:x % p=y % p:=Int.emod_eq_emod_iff_emod_sub_eq_zero.mpr e
 rwa [Int.emod_eq_of_lt h2.1 h2.2] at e2
end
theorem Ii (s:Int)(h:Nat):(s*s)^h=s^(2*h):=by
 induction h with
 |zero=>rw[Nat.mul_zero,Int.pow_zero,Int.pow_zero]
 |succ h ih=>rw[Int.pow_succ,ih,show 2*(h+1)=2*h+1+1 by omega,Int.pow_succ,Int.pow_succ,Int.mul_assoc]
theorem Ln {p:Int}(h:PP p):Mu p.toNat:=by
 obtain⟨h1,h2,h3⟩:=h
 obtain⟨n,rfl⟩:∃n:Nat,p=n:=⟨p.toNat,by omega⟩
 rw[Int.toNat_natCast]
 have key:∀d e:Nat,n=d*e->d<=e->2<=d->False:=λd e he hle hd=>by
  have hdd:d*d<=n:=by rw[he];exact Nat.mul_le_mul_left d hle
  have h317:d<317:=by
   rcases Nat.lt_or_ge d 317 with h |h
   ·exact h
   ·have:=Nat.mul_le_mul h h
    omega
  have hg:=B0 h3 (a:=(d:Int)) (by omega) (by omega) (by
   have:((d*d:Nat):Int)<=(n:Int):=by omega
   rwa [Int.natCast_mul] at this)
  have:(n:Int) % (d:Int)=0:=Int.emod_eq_zero_of_dvd ⟨(e:Int),by rw[he,Int.natCast_mul]⟩
  omega
 refine⟨by omega,λd r9=>?_⟩
 obtain⟨e,he⟩:=r9
 rcases Nat.le_total d e with hle |hle
 ·rcases(by omega:d=0∨d=1∨2<=d) with hd |hd |hd
  ·rw[hd,Nat.zero_mul] at he;omega
  ·exact .inl hd
  ·exact(key d e he hle hd).elim
 ·rcases(by omega:e=0∨e=1∨2<=e) with hd |hd |hd
  ·rw[hd,Nat.mul_zero] at he;omega
  ·rw[hd,Nat.mul_one] at he;exact .inr he.symm
  ·exact(key e d (by rw[he,Nat.mul_comm]) hle hd).elim
theorem DN {γ:Type}{c:γ->Rs Bool}{f:γ->Rs γ}(P:γ->Prop)(μ:γ->Nat)(hs:∀g,P g->c g= .ok (decide (0<μ g))/\(0<μ g->Ok (f g) λg'=>P g'/\μ g'=μ g/2)):∀(n:Nat) (g:γ),P g->μ g<2^n->Ok (Qd (n+1) g c f) λg'=>P g'/\μ g'=0:=by
 intro n
 induction n with
 |zero=>
  intro g hp hl
  have h0:μ g=0:=by rw[Nat.pow_zero] at hl;omega
  rw[Qd,(hs g hp).1,h0]
  exact⟨g,rfl,hp,h0⟩
 |succ n ih=>
  intro g hp hl
  rw[Qd,(hs g hp).1,Rs.okb]
  by_cases h:0<μ g
  ·rw[if_pos (decide_eq_true h)]
   refine Ok.bind ((hs g hp).2 h) λg' hg=>ih g' hg.1 ?_
   rw[hg.2,Nat.div_lt_iff_lt_mul (by decide)]
   rw[Nat.pow_succ] at hl
   exact hl
  ·rw[if_neg (by rw[decide_eq_true_eq];exact h)]
   exact⟨g,rfl,hp,by omega⟩
theorem DQ {p a:Int}(hp:PP p)(h0:0<a)(h1:a<p):Ok (YU a p) λr=>0<=r/\r<p/\Cg p (a*r) 1:=by
 obtain⟨p1,p2,_⟩:=id hp
 unfold YU
 simp only[Rs.okb]
 refine Ok.bind (DN (λg:Int×Int×Int=>(0<=g.1/\g.1<p)/\(0<=g.2.1/\g.2.1<=100000)/\(0<=g.2.2/\g.2.2<p)/\Cg p (g.2.2*g.1^g.2.1.toNat) (a^(p-2).toNat)) (λg=>g.2.1.toNat) (λg hg=>?_) 99 (a,p-2,1) ⟨⟨by omega,h1⟩,⟨by show 0<=p-2;omega,by show p-2<=100000;omega⟩,⟨by show(0:Int)<=1;decide,by show(1:Int)<p;omega⟩,Cg.of (Int.one_mul _)⟩ (by show(p-2).toNat<2^99;omega)) λg hg=>⟨_,rfl,?_⟩
 ·obtain⟨⟨a1,a2⟩,⟨b1,b2⟩,⟨c1,c2⟩,d⟩:=hg
  refine⟨?_,λhl=>?_⟩
  ·have:(0<g.2.1)↔0<g.2.1.toNat:=by omega
   simp only[this]
  ·have hl:0<g.2.1.toNat:=hl
   rw[Yg (by decide),Rs.okb,Rs.okb,YK (a:=g.2.2) (by omega) (by omega),YK (a:=g.1) (by omega) (by omega),Rs.okb,Yg (by omega),show NX g.2.1 2= .ok (g.2.1/2) from XD (by decide)]
   simp only[Rs.okb]
   have hm:∀w:Int,0<=w % p/\w % p<p:=λw=>⟨Int.emod_nonneg _ (by omega),Int.emod_lt_of_pos _ (by omega)⟩
   have ht:(g.2.1/2).toNat=g.2.1.toNat/2:=by omega
   by_cases hodd:g.2.1 % 2=1
   ·rw[if_pos (decide_eq_true hodd),Yg (by omega)]
    simp only[Rs.okb]
    refine⟨_,rfl,⟨hm _,⟨by show 0<=g.2.1/2;omega,by show g.2.1/2<=100000;omega⟩,hm _,?_⟩,ht⟩
    show Cg p (g.2.2*g.1 % p*(g.1*g.1 % p)^(g.2.1/2).toNat) _
    refine(((Cg.emod p _).mul ((Cg.emod p _).pow _)).trans (Cg.of ?_)).trans d
    rw[Ii,ht,Int.mul_assoc,Int.mul_comm g.1, ←Int.pow_succ]
    congr 2
    omega
   ·rw[if_neg (by rw[decide_eq_true_eq];exact hodd),Rs.okb,Yg (by omega),Rs.okb]
    refine⟨(g.1*g.1 % p,g.2.1/2,g.2.2),rfl,⟨hm _,⟨by show 0<=g.2.1/2;omega,by show g.2.1/2<=100000;omega⟩,⟨c1,c2⟩,?_⟩,ht⟩
    show Cg p (g.2.2*(g.1*g.1 % p)^(g.2.1/2).toNat) _
    refine(((Cg.refl p _).mul ((Cg.emod p _).pow _)).trans (Cg.of ?_)).trans d
    rw[Ii,ht]
    congr 2
    omega
 ·obtain⟨⟨_,_,c,d⟩,hz⟩:=hg
  have hz:g.2.1.toNat=0:=hz
  rw[hz,Int.pow_zero,Int.mul_one] at d
  refine⟨c.1,c.2,((Cg.refl p a).mul d).trans ?_⟩
  obtain⟨n,rfl⟩:∃n:Nat,a=n:=⟨a.toNat,by omega⟩
  obtain⟨q,rfl⟩:∃q:Nat,p=q:=⟨p.toNat,by omega⟩
  have hf:=LL (Ln hp) (a:=n) (λz=>by rw[Int.toNat_natCast] at z;have:=Nat.le_of_dvd (by omega) z;omega)
  rw[Int.toNat_natCast] at hf
  have e:((q:Int)-2).toNat=q-2:=by omega
  have h2:=Nat.div_add_mod (n*n^(q-2)) q
  rw[hf] at h2
  refine⟨((n*n^(q-2)/q:Nat):Int),?_⟩
  rw[e, ←Int.natCast_pow, ←Int.natCast_mul, ←Int.natCast_mul]
  omega
noncomputable def Yx (M:Nat)(r:Nat->Int):List Int:=(List.range M).map r
theorem ZG (M:Nat)(r:Nat->Int):(Yx M r).length=M:=by simp[Yx]
theorem Ko {M:Nat}{r:Nat->Int}{j:Nat}(h:j<M):atR (Yx M r) (j:Int)= .ok (r j):=YA (by simp[Yx,h])
theorem QY {M:Nat}{r q:Nat->Int}(h:∀j,j<M->r j=q j):Yx M r=Yx M q:=List.map_congr_left λj hj=>h j (List.mem_range.mp hj)
noncomputable def tim (p s:Int)(r:Nat->Int)(j:Nat):Int:=s*r j % p
noncomputable def clr (p:Int)(a:Nat)(l r:Nat->Int)(j:Nat):Int:=(r j-r a*l j) % p
theorem HJ {M:Nat}{r:Nat->Int}{s p:Int}(hM:M<=1000)(h0:0<=s)(h1:s<2^63)(hp:0<p):J5 (Yx M r) s p= .ok (Yx M (tim p s r)):=by
 unfold J5
 simp only[Rs.okb]
 rw[YM (h:=λx=>s*x % p) (sz (by rw[ZG];omega)) λx _=>by rw[YK (by omega) (by omega),Rs.okb,Yg hp]]
 unfold Yx
 rw[List.map_map]
 rfl
theorem UT {M a:Nat}{r l:Nat->Int}{p:Int}(hM:M<=1000)(ha:a<M)(h0:0<=r a)(h1:r a<2^63)(hp:0<p):Zx (Yx M r) (Yx M l) (a:Int) p= .ok (Yx M (clr p a l r)):=by
 unfold Zx
 simp only[Rs.okb]
 rw[Ko ha]
 simp only[Rs.okb]
 rw[YM (h:=λx:Int×Int=>(x.1-r a*x.2) % p) (sz (by simp[Yx];omega)) λx _=>by rw[YK (by omega) (by omega),Rs.okb,Rs.okb,Yg hp]]
 unfold Yx
 rw[List.zip_map',List.map_map]
 rfl
noncomputable def Q3 (N:Nat)(F:Nat->Int):Int:=((List.range N).map F).sum
theorem Zm (N:Nat)(F:Nat->Int):Q3 (N+1) F=Q3 N F+F N:=by
 unfold Q3
 rw[List.range_succ,List.map_append,List.sum_append]
 simp
theorem US {F G:Nat->Int}(N:Nat)(h:∀i,i<N->F i=G i):Q3 N F=Q3 N G:=by
 unfold Q3
 rw[List.map_congr_left λi hi=>h i (List.mem_range.mp hi)]
theorem J8 {p:Int}{F G:Nat->Int}(N:Nat)(h:∀i,i<N->Cg p (F i) (G i)):Cg p (Q3 N F) (Q3 N G):=by
 induction N with
 |zero=>exact Cg.refl ..
 |succ N ih=>rw[Zm,Zm];exact(ih λi hi=>h i (by omega)).add (h N (by omega))
theorem Vz (N:Nat)(u v:Int)(F G:Nat->Int):Q3 N (λi=>u*F i+v*G i)=u*Q3 N F+v*Q3 N G:=by
 induction N with
 |zero=>show(0:Int)=u*0+v*0;omega
 |succ N ih=>rw[Zm,Zm,Zm,ih,Int.mul_add,Int.mul_add];omega
theorem Jz (N:Nat){F:Nat->Int}(h:∀i,i<N->F i=0):Q3 N F=0:=by
 induction N with
 |zero=>rfl
 |succ N ih=>rw[Zm,ih λi hi=>h i (by omega),h N (by omega)];rfl
theorem Qg {N k:Nat}(F:Nat->Int)(h:k<N)(hz:∀i,i<N->i≠k->F i=0):Q3 N F=F k:=by
 induction N with
 |zero=>omega
 |succ N ih=>
  rw[Zm]
  by_cases e:k=N
  ·subst e
   rw[Jz _ λi hi=>hz i (by omega) (by omega)];omega
  ·rw[ih (by omega) λi hi=>hz i (by omega),hz N (by omega) (λz=>e z.symm)];omega
section
variable {p:Int}{K N:Nat}{e:Nat->Nat->Int}
noncomputable def Lin (p:Int)(K N:Nat)(e:Nat->Nat->Int)(r:Nat->Int):Prop:=∀ j,j<K->Cg p (r j) (Q3 N λk=>r (K+k)*e k j)
noncomputable def Ran (p:Int)(M:Nat)(r:Nat->Int):Prop:=∀ j,j<M->0<=r j/\r j<p
noncomputable def Kil (p:Int)(K:Nat)(r c:Nat->Int):Prop:=Cg p (Q3 K λj=>r j*c j) 0
theorem Dh {r l t:Nat->Int}{u v:Int}(hr:Lin p K N e r)(hl:Lin p K N e l)(ht:∀j,j<K+N->Cg p (t j) (u*r j+v*l j)):Lin p K N e t:=λj hj=>by
 refine(ht j (by omega)).trans ((((Cg.refl p u).mul (hr j hj)).add ((Cg.refl p v).mul (hl j hj))).trans ?_)
 rw[←Vz]
 refine J8 N λk hk=>?_
 have:=((ht (K+k) (by omega)).mul (Cg.refl p (e k j))).symm
 rw[Int.add_mul,Int.mul_assoc,Int.mul_assoc] at this
 exact this
theorem Di {r l t c:Nat->Int}{u v:Int}(hr:Kil p K r c)(hl:Kil p K l c)(ht:∀j,j<K->Cg p (t j) (u*r j+v*l j)):Kil p K t c:=by
 unfold Kil at hr hl⊢
 have h1:Cg p (Q3 K λj=>t j*c j) (Q3 K λj=>u*(r j*c j)+v*(l j*c j)):=J8 K λj hj=>by
  have:=(ht j hj).mul (Cg.refl p (c j))
  rw[Int.add_mul,Int.mul_assoc,Int.mul_assoc] at this
  exact this
 rw[Vz] at h1
 refine h1.trans ((((Cg.refl p u).mul hr).add ((Cg.refl p v).mul hl)).trans (Cg.of ?_))
 omega
theorem ML (s:Int)(r:Nat->Int)(j:Nat):Cg p (tim p s r j) (s*r j+0*r j):=by
 rw[Int.zero_mul,Int.add_zero];exact Cg.emod ..
theorem Ik (a:Nat)(l r:Nat->Int)(j:Nat):Cg p (clr p a l r j) (1*r j+ -(r a)*l j):=by
 rw[Int.one_mul,Int.neg_mul, ←Int.sub_eq_add_neg];exact Cg.emod ..
structure GI (p:Int)(K N:Nat)(e:Nat->Nat->Int)(a:Nat)(ws:List (Nat->Int))(ts:List (Nat×(Nat->Int))):Prop where
 wl:∀r∈ws,Lin p K N e r/\Ran p (K+N) r/\∀j,j<a->r j=0
 tl:∀t∈ts,Lin p K N e t.2/\Ran p (K+N) t.2/\t.1<a/\t.2 t.1=1/\(∀j,j<t.1->t.2 j=0)/\∀t'∈ts,t'.1≠t.1->t.2 t'.1=0
 inc:(ts.map (·.1)).Pairwise (· < ·)
 sp:∀c:Nat->Int,(∀r∈ws,Kil p K r c)->(∀t∈ts,Kil p K t.2 c)->∀k,k<N->Kil p K (e k) c
theorem Jt (hp:0<p)(x:Int):0<=x % p/\x % p<p:=⟨Int.emod_nonneg _ (by omega),Int.emod_lt_of_pos _ hp⟩
theorem GI.skip {a:Nat}{ws:List (Nat->Int)}{ts:List (Nat×(Nat->Int))}(h:GI p K N e a ws ts)(hz:∀r∈ws,r a=0):GI p K N e (a+1) ws ts where
 wl:=λr hr=>by
  obtain⟨h1,h2,h3⟩:=h.wl r hr
  refine⟨h1,h2,λj hj=>?_⟩
  rcases(by omega:j<a∨j=a) with q |q
  ·exact h3 j q
  ·rw[q];exact hz r hr
 tl:=λt ht=>by
  obtain⟨h1,h2,h3,h4,h5,h6⟩:=h.tl t ht
  exact⟨h1,h2,by omega,h4,h5,h6⟩
 inc:=h.inc
 sp:=h.sp
theorem GI.step {a:Nat}{ws:List (Nat->Int)}{ts:List (Nat×(Nat->Int))}{l:Nat->Int}{s:Int}(h:GI p K N e a ws ts)(hp:1<p)(ha:a<K)(hl:l∈ws)(hs:Cg p (l a*s) 1):GI p K N e (a+1) (ws.map (clr p a (tim p s l))) (ts.map (λt=>(t.1,clr p a (tim p s l) t.2))++[(a,tim p s l)]):=by
 obtain⟨l1,l2,l3⟩:=h.wl l hl
 have hpp:0<p:=by omega
 have L1:Lin p K N e (tim p s l):=Dh l1 l1 λj _=>ML s l j
 have L2:Ran p (K+N) (tim p s l):=λj _=>Jt hpp _
 have L3:∀j,j<a->tim p s l j=0:=λj hj=>by
  show s*l j % p=0
  rw[l3 j hj,Int.mul_zero,Int.zero_emod]
 have L4:tim p s l a=1:=Cg.rest (by rw[Int.mul_comm];exact hs) ⟨by decide,hp⟩
 generalize tim p s l=m at L1 L2 L3 L4
 have hclr:∀{r:Nat->Int},Lin p K N e r->Lin p K N e (clr p a m r):=fun {r} hr=>Dh hr L1 λj _=>Ik a m r j
 have hran:∀r:Nat->Int,Ran p (K+N) (clr p a m r):=λr j _=>Jt hpp _
 have hat:∀r:Nat->Int,clr p a m r a=0:=λr=>by
  show(r a-r a*m a) % p=0
  rw[L4,Int.mul_one,Int.sub_self,Int.zero_emod]
 have hlow:∀(r:Nat->Int) j,j<a->Ran p (K+N) r->clr p a m r j=r j:=λr j hj hr=>by
  show(r j-r a*m j) % p=r j
  rw[L3 j hj,Int.mul_zero,Int.sub_zero]
  have:=hr j (by omega)
  exact Int.emod_eq_of_lt this.1 this.2
 refine⟨λr hr=>?_,λt ht=>?_,?_,λc hw ht=>?_⟩
 ·obtain⟨r,hr',rfl⟩:=List.mem_map.mp hr
  obtain⟨h1,h2,h3⟩:=h.wl r hr'
  refine⟨hclr h1,hran r,λj hj=>?_⟩
  rcases(by omega:j<a∨j=a) with q |q
  ·rw[hlow r j q h2];exact h3 j q
  ·rw[q];exact hat r
 ·rcases List.mem_append.mp ht with ht |ht
  ·obtain⟨t,htt,rfl⟩:=List.mem_map.mp ht
   obtain⟨h1,h2,h3,h4,h5,h6⟩:=h.tl t htt
   refine⟨hclr h1,hran _,by show t.1<a+1;omega,?_,λj hj=>?_,λt' ht' hne=>?_⟩
   ·show clr p a m t.2 t.1=1
    rw[hlow _ _ h3 h2];exact h4
   ·have hj:j<t.1:=hj
    show clr p a m t.2 j=0
    rw[hlow _ _ (by omega) h2];exact h5 j hj
   ·show clr p a m t.2 t'.1=0
    rcases List.mem_append.mp ht' with q |q
    ·obtain⟨t',q',rfl⟩:=List.mem_map.mp q
     show clr p a m t.2 t'.1=0
     rw[hlow _ _ (h.tl t' q').2.2.1 h2]
     exact h6 t' q' hne
    ·rw[List.mem_singleton.mp q];exact hat _
  ·rw[List.mem_singleton.mp ht]
   refine⟨L1,L2,by show a<a+1;omega,L4,L3,λt' ht' hne=>?_⟩
   rcases List.mem_append.mp ht' with q |q
   ·obtain⟨t',q',rfl⟩:=List.mem_map.mp q
    exact L3 _ (h.tl t' q').2.2.1
   ·rw[List.mem_singleton.mp q] at hne
    exact absurd rfl hne
 ·rw[List.map_append,List.map_map]
  show(ts.map (·.1)++[a]).Pairwise (· < ·)
  rw[List.pairwise_append]
  refine⟨h.inc,by simp,λx hx y hy=>?_⟩
  obtain⟨t,ht,rfl⟩:=List.mem_map.mp hx
  rw[List.mem_singleton.mp hy]
  exact(h.tl t ht).2.2.1
 ·have hm:Kil p K m c:=ht (a,m) (List.mem_append_right _ (by simp))
  have back:∀r:Nat->Int,Kil p K (clr p a m r) c->Kil p K r c:=λr hr=>Di hr hm λj _=>by
   have:=(Ik (p:=p) a m r j).symm
   refine(Cg.of ?_).trans ((this.mul (Cg.refl p 1)).add (Cg.refl p (r a*m j))) |>.trans (Cg.of ?_)
   ·rw[Int.mul_one,Int.neg_mul];omega
   ·rw[Int.mul_comm _ 1]
  exact h.sp c (λr hr=>back r (hw _ (List.mem_map.mpr ⟨r,hr,rfl⟩))) λt ht'=>back t.2 (ht (t.1,clr p a m t.2) (List.mem_append_left _ (List.mem_map.mpr ⟨t,ht',rfl⟩)))
noncomputable def Q2 (M:Nat)(t:Nat×(Nat->Int)):Int×List Int:=((t.1:Int),Yx M t.2)
theorem Mw (hp:PP p){ws0:List (Nat->Int)}(hK:K<=100)(hN:N<=100)(hw:ws0.length<=100)(h0:GI p K N e 0 ws0 []):Ok (ZM (ws0.map (Yx (K+N))) (K:Int) p) λtold=>∃ ws ts,told=ts.map (Q2 (K+N))/\GI p K N e K ws ts:=by
 obtain⟨p1,p2,_⟩:=id hp
 unfold ZM
 simp only[Rs.okb]
 rw[Zi (by omega),Rs.okb]
 refine Ok.bind (Ok.forN (λa (g:List (List Int)×List (Int×List Int))=>∃ ws ts,g=(ws.map (Yx (K+N)),ts.map (Q2 (K+N)))/\GI p K N e a ws ts/\ws.length<=100/\ts.length<=a) ⟨ws0,[],rfl,h0,hw,Nat.le_refl _⟩ λa x g hx hg=>?_) λg hg=>?_
 ·obtain⟨rfl,ha⟩:=YN hx
  obtain⟨ws,ts,rfl,hI,hwl,htl⟩:=hg
  have hfil:ES (ws.map (Yx (K+N))) (λa16=>(Rs.bind (atR a16 (a:Int)) λx21=>(Rs.ok (!decide (x21=(0:Int)))))) (λa16=>Rs.ok a16)= .ok ((ws.filter λr=>!decide (r a=0)).map (Yx (K+N))):=by
   rw[JT (p:=λrow=>!decide (row.getD a 0=0)) (h:=λrow=>row) (sz (by simp;omega)) (λrow hrow=>?_) λ_ _ _=>rfl]
   ·rw[List.map_id',List.filter_map]
    congr 2
    refine List.filter_congr λr _=>?_
    show(!decide ((Yx (K+N) r).getD a 0=0))=_
    have:(Yx (K+N) r).getD a 0=r a:=by simp[Yx,show a<K+N by omega]
    rw[this]
   ·obtain⟨r,hr,rfl⟩:=List.mem_map.mp hrow
    have:(Yx (K+N) r).getD a 0=r a:=by simp[Yx,show a<K+N by omega]
    rw[Ko (by omega),Rs.okb,this]
  rw[hfil,Rs.okb]
  cases hls:ws.filter λr=>!decide (r a=0) with
  |nil=>
   rw[List.map_nil,if_neg (by decide),Rs.okb]
   refine⟨_,rfl,ws,ts,rfl,hI.skip λr hr=>?_,hwl,by omega⟩
   have:=List.filter_eq_nil_iff.mp hls r hr
   simpa using this
  |cons l rest=>
   have hmem:l∈ws.filter λr=>!decide (r a=0):=by rw[hls];exact List.mem_cons_self
   obtain⟨hl,hne⟩:=List.mem_filter.mp hmem
   have hne:l a≠0:=by simpa using hne
   have hlr:=(hI.wl l hl).2.1 a (by omega)
   rw[if_pos (by simp),show atR ((l::rest).map (Yx (K+N))) 0= .ok (Yx (K+N) l) from YA (i:=0) rfl]
   simp only[Rs.okb]
   rw[Ko (show a<K+N by omega),Rs.okb]
   obtain⟨s,es,s0,s1,sc⟩:=DQ hp (a:=l a) (by omega) hlr.2
   rw[es,Xr,Rs.okb,HJ (by omega) s0 (by omega) (by omega),Xr,Rs.okb]
   rw[YM (h:=λrow=>Yx (K+N) (clr p a (tim p s l) λj=>row.getD j 0)) (sz (by simp;omega)) λrow hrow=>?_,Rs.okb]
   ·rw[YM (h:=λt:Int×List Int=>(t.1,Yx (K+N) (clr p a (tim p s l) λj=>t.2.getD j 0))) (sz (by simp;omega)) λt ht=>?_,Rs.okb]
    ·rw[XD (sz (by simp)),Rs.okb,show ∀l1 l2:List (Int×List Int),l1.length+l2.length<=1000->DL l1 l2= .ok (l1++l2) from λl1 l2 h=>XD (sz (by omega)),Rs.okb]
     ·refine⟨_,rfl,_,_,?_,hI.step (by omega) ha hl sc,by simpa using hwl,by simp;omega⟩
      have hg:∀r:Nat->Int,Yx (K+N) (clr p a (tim p s l) λj=>(Yx (K+N) r).getD j 0)=Yx (K+N) (clr p a (tim p s l) r):=λr=>QY λj hj=>by
       have q:∀j,j<K+N->(Yx (K+N) r).getD j 0=r j:=λj hj=>by simp[Yx,hj]
       show((Yx (K+N) r).getD j 0-(Yx (K+N) r).getD a 0*_) % p=_
       rw[q j hj,q a (by omega)]
       rfl
      refine Prod.ext ?_ ?_
      ·show(ws.map (Yx (K+N))).map _=(ws.map _).map _
       rw[List.map_map,List.map_map]
       exact List.map_congr_left λr _=>hg r
      ·show(ts.map (Q2 (K+N))).map _++[((a:Int),Yx (K+N) (tim p s l))]=(ts.map _++[(a,tim p s l)]).map _
       rw[List.map_append,List.map_map,List.map_map]
       congr 1
       refine List.map_congr_left λt _=>?_
       show((t.1:Int),_)=((t.1:Int),_)
       rw[←hg t.2]
       rfl
     ·simp;omega
    ·obtain⟨t,htt,rfl⟩:=List.mem_map.mp ht
     have hr:=(hI.tl t htt).2.1 a (by omega)
     show((noE (Zx (Yx (K+N) t.2) _ _ _)).bind _)=_
     rw[UT (by omega) (by omega) hr.1 (by omega) (by omega),Xr,Rs.okb]
     congr 2
     refine QY λj hj=>?_
     have q:∀j,j<K+N->(Q2 (K+N) t).2.getD j 0=t.2 j:=λj hj=>by simp[Q2,Yx,hj]
     show _=((Q2 (K+N) t).2.getD j 0-(Q2 (K+N) t).2.getD a 0*_) % p
     rw[q j hj,q a (by omega)]
     rfl
   ·obtain⟨r,hrr,rfl⟩:=List.mem_map.mp hrow
    have hr:=(hI.wl r hrr).2.1 a (by omega)
    rw[UT (by omega) (by omega) hr.1 (by omega) (by omega),Xr]
    congr 1
    refine QY λj hj=>?_
    have q:∀j,j<K+N->(Yx (K+N) r).getD j 0=r j:=λj hj=>by simp[Yx,hj]
    show _=((Yx (K+N) r).getD j 0-(Yx (K+N) r).getD a 0*_) % p
    rw[q j hj,q a (by omega)]
    rfl
 ·obtain⟨ws,ts,rfl,hI,_,_⟩:=hg
  rw[YE] at hI
  exact⟨_,rfl,ws,ts,rfl,hI⟩
end
theorem Bo {α:Type}:∀{l acc:List (Int×α)},((acc++l).map (·.1)).Nodup->DU acc l=acc++l:=by
 intro l
 induction l with
 |nil=>intro acc _;rw[List.append_nil];rfl
 |cons x l ih=>
  intro acc h
  show DU (Uq acc x.1 x.2) l=_
  have hx:Uq acc x.1 x.2=acc++[x]:=by
   unfold Uq
   rw[if_neg]
   rw[List.any_eq_true]
   rintro⟨kv,h1,h2⟩
   rw[List.map_append,List.nodup_append] at h
   exact h.2.2 kv.1 (List.mem_map.mpr ⟨kv,h1,rfl⟩) x.1 (by simp) (by simpa using h2)
  rw[hx,ih (by simpa using h),List.append_assoc]
  rfl
theorem B9 {α:Type}(d:List (Int×α))(x:Int):(Zp d x).isSome=true↔x∈d.map (·.1):=by
 unfold Zp
 rw[Option.isSome_map,List.find?_isSome,List.mem_map]
 simp
theorem EN {n k:Nat}(hk:k<n)(hn:n<=900):Vm (n:Int) (k:Int)= .ok (Yx n λj=>if j=k then 1 else 0):=by
 unfold Vm
 simp only[Rs.okb]
 rw[XD (sz (by simp)),Rs.okb,Ot hn,Rs.okb,J6 (by simp;omega),Rs.okb]
 congr 1
 exact Jy hk (by rw[if_pos rfl]) λj _ h=>by rw[if_neg h]
noncomputable def w0 (K:Nat)(e:Nat->Nat->Int)(k j:Nat):Int:=if j<K then e k j else if j=K+k then 1 else 0
theorem Ma {K N:Nat}{e:Nat->Nat->Int}(hK:K<=100)(hN:N<=100):YQ ((List.range N).map λk=>Yx K (e k))= .ok (((List.range N).map (w0 K e)).map (Yx (K+N))):=by
 unfold YQ
 simp only[Rs.okb]
 have hlen:((List.range N).map λk=>Yx K (e k)).length=N:=by simp
 rw[hlen]
 have hget:∀(i:Nat) (x:Int×List Int),(J2 ((List.range N).map λk=>Yx K (e k)))[i]?=some x->i<N/\x=((i:Int),Yx K (e i)):=λi x hx=>by
  obtain⟨h1,h2⟩:=V8 hx
  have hi:=(List.getElem?_eq_some_iff.mp h2).1
  rw[hlen] at hi
  rw[List.getElem?_map,List.getElem?_range hi] at h2
  exact⟨hi,Prod.ext h1 (Option.some.inj h2).symm⟩
 have hel:(J2 ((List.range N).map λk=>Yx K (e k))).length=N:=by simp[J2]
 rw[YM (h:=λx:Int×List Int=>x.2++Yx N λj=>if j=x.1.toNat then 1 else 0) (sz (by rw[hel];omega)) λx hx=>?_]
 ·congr 1
  rw[List.map_map]
  refine List.ext_getElem (by simp[hel]) λi h1 h2=>?_
  have hi:i<N:=by simpa using h2
  have hx:=hget i _ (List.getElem?_eq_getElem (show i<(J2 ((List.range N).map λk=>Yx K (e k))).length by rw[hel];exact hi))
  rw[List.getElem_map,hx.2]
  simp only[List.getElem_map,List.getElem_range,Function.comp]
  unfold Yx
  rw[List.range_add,List.map_append,List.map_map]
  congr 1
  ·exact List.map_congr_left λj hj=>by
    have:=List.mem_range.mp hj
    show e i j=w0 K e i j
    unfold w0
    rw[if_pos this]
  ·refine List.map_congr_left λj hj=>?_
   show(if j=(i:Int).toNat then(1:Int) else 0)=w0 K e i (K+j)
   have hw:w0 K e i (K+j)=if K+j=K+i then 1 else 0:=if_neg (by omega)
   rw[hw,Int.toNat_natCast]
   by_cases q:j=i
   ·rw[if_pos q,if_pos (by omega)]
   ·rw[if_neg q,if_neg (by omega)]
 ·obtain⟨i,hi⟩:=List.mem_iff_getElem?.mp hx
  obtain⟨hN',rfl⟩:=hget i x hi
  rw[EN hN' (by omega),Xr,Rs.okb]
  exact XD (sz (by rw[ZG,ZG];omega))
theorem EY {p:Int}{K N:Nat}{e:Nat->Nat->Int}(hp:1<p)(he:∀k,k<N->Ran p K (e k)):GI p K N e 0 ((List.range N).map (w0 K e)) []:=by
 have hlow:∀k j,j<K->w0 K e k j=e k j:=λk j hj=>if_pos hj
 refine⟨λr hr=>?_,λt ht=>(nomatch ht),List.Pairwise.nil,λc hw _ k hk=>?_⟩
 ·obtain⟨k,hk,rfl⟩:=List.mem_map.mp hr
  have hk:=List.mem_range.mp hk
  refine⟨λj hj=>?_,λj hj=>?_,λj hj=>(by omega)⟩
  ·rw[hlow k j hj,Qg (k:=k) _ hk λi hi hne=>?_]
   ·refine Cg.of ?_
    unfold w0
    rw[if_neg (by omega),if_pos rfl,Int.one_mul]
   ·unfold w0
    rw[if_neg (by omega),if_neg (by omega),Int.zero_mul]
  ·unfold w0
   by_cases q:j<K
   ·rw[if_pos q];exact he k hk j q
   ·rw[if_neg q]
    split<;> omega
 ·have:=hw (w0 K e k) (List.mem_map.mpr ⟨k,List.mem_range.mpr hk,rfl⟩)
  unfold Kil at this⊢
  rw[US K λj hj=>by rw[←hlow k j hj]]
  exact this
section
variable {p:Int}{K N:Nat}{e:Nat->Nat->Int}{ws:List (Nat->Int)}{ts:List (Nat×(Nat->Int))}
theorem GI.nodup {a:Nat}(h:GI p K N e a ws ts):((ts.map (Q2 (K+N))).map (·.1)).Nodup:=by
 rw[List.map_map]
 have:((·.1)∘Q2 (K+N))=(λ(n:Nat)=>(n:Int))∘(λt:Nat×(Nat->Int)=>t.1):=rfl
 rw[this, ←List.map_map,List.Nodup,List.pairwise_map]
 exact h.inc.imp λh=>by omega
noncomputable def DE (p:Int)(ts:List (Nat×(Nat->Int)))(free j:Nat):Int:=match ts.find? λt=>decide (t.1=j) with
 |some t=>(-(t.2 free)) % p
 |none=>if j=free then 1 else 0
theorem KJ (h:(ts.map (·.1)).Pairwise (· < ·)){t:Nat×(Nat->Int)}(ht:t∈ts)(free:Nat):DE p ts free t.1=(-(t.2 free)) % p:=by
 unfold DE
 cases hf:ts.find? λt'=>decide (t'.1=t.1) with
 |none=>
  have:=List.find?_eq_none.mp hf t ht
  simp at this
 |some t'=>
  have h1:t'.1=t.1:=by simpa using List.find?_some hf
  have h2:=List.mem_of_find?_eq_some hf
  have:t'=t:=by
   obtain⟨i,hi,rfl⟩:=List.mem_iff_getElem.mp h2
   obtain⟨k,hk,rfl⟩:=List.mem_iff_getElem.mp ht
   rw[List.pairwise_map] at h
   rcases Nat.lt_trichotomy i k with q |q |q
   ·have:=List.pairwise_iff_getElem.mp h i k hi hk q;omega
   ·subst q;rfl
   ·have:=List.pairwise_iff_getElem.mp h k i hk hi q;omega
  rw[this]
theorem JI {j:Nat}(hj:∀t∈ts,t.1≠j)(free:Nat):DE p ts free j=if j=free then 1 else 0:=by
 unfold DE
 rw[List.find?_eq_none.mpr λt ht=>by simpa using hj t ht]
theorem KY (h:GI p K N e K ws ts)(hp:0<p)(hK:K<=100){free:Nat}(hf:free<K):YS (free:Int) (ts.map (Q2 (K+N))) (K:Int) p= .ok (Yx K (DE p ts free)):=by
 unfold YS
 simp only[Rs.okb]
 rw[EN hf (by omega),Xr,Rs.okb]
 apply Ok.eq
 refine Ok.bind (Ok.forN (λi (g:List Int)=>∃ c:Nat->Int,g=Yx K c/\(∀t∈ts.take i,c t.1=(-(t.2 free)) % p)/\∀j,(∀t∈ts.take i,t.1≠j)->c j=if j=free then 1 else 0) ⟨_,rfl,λt ht=>absurd ht (by simp),λj _=>rfl⟩ λi x g hx hg=>?_) λg hg=>?_
 ·obtain⟨c,rfl,h1,h2⟩:=hg
  rw[List.getElem?_map] at hx
  obtain⟨t,ht,rfl⟩:=Option.map_eq_some_iff.mp hx
  have hmem:=List.mem_of_getElem? ht
  have hi:=(List.getElem?_eq_some_iff.mp ht).1
  have ht1:=(h.tl t hmem).2.2.1
  show Ok (((((atR (Yx (K+N) t.2) (free:Int)).bind _).bind _)).bind λx18=>(QO _ ((t.1:Nat):Int) x18).bind _) _
  rw[Ko (by omega),Rs.okb,Rs.okb,Yg hp,Rs.okb,J6 (by rw[ZG];exact ht1),Rs.okb]
  refine⟨_,rfl,λj=>if j=t.1 then(-(t.2 free)) % p else c j,?_,λt' ht'=>?_,λj hj=>?_⟩
  ·exact Jy ht1 (by rw[if_pos rfl]) λj _ hj=>by rw[if_neg hj]
  ·rw[List.take_add_one,ht,List.mem_append] at ht'
   rcases ht' with q |q
   ·have hne:t'.1≠t.1:=by
     obtain⟨k,hk,rfl⟩:=List.mem_iff_getElem.mp q
     rw[List.length_take] at hk
     have hinc:=h.inc
     rw[List.pairwise_map] at hinc
     have:=List.pairwise_iff_getElem.mp hinc k i (by omega) hi (by omega)
     have e2:ts[i]=t:=by rw[List.getElem?_eq_getElem hi] at ht;exact Option.some.inj ht
     rw[List.getElem_take]
     rw[e2] at this
     omega
    show(if t'.1=t.1 then _ else c t'.1)=_
    rw[if_neg hne];exact h1 t' q
   ·have:t'=t:=by simpa using q
    subst this
    exact if_pos rfl
  ·rw[List.take_add_one,ht] at hj
   have q1:t.1≠j:=hj t (by simp)
   show(if j=t.1 then _ else c j)=_
   rw[if_neg (λz=>q1 z.symm)]
   exact h2 j λt' ht'=>hj t' (by simp[ht'])
 ·obtain⟨c,rfl,h1,h2⟩:=hg
  rw[List.length_map,List.take_length] at h1 h2
  refine⟨_,rfl,QY λj hj=>?_⟩
  by_cases q:∃t∈ts,t.1=j
  ·obtain⟨t,ht,rfl⟩:=q
   rw[h1 t ht,KJ h.inc ht]
  ·have q:∀t∈ts,t.1≠j:=λt ht z=>q ⟨t,ht,z⟩
   rw[h2 j q,JI q]
noncomputable def isT (ts:List (Nat×(Nat->Int)))(j:Nat):Bool:=ts.any λt=>decide (t.1=j)
theorem G1 {j:Nat}:isT ts j=true↔∃t∈ts,t.1=j:=by
 unfold isT
 rw[List.any_eq_true]
 simp
noncomputable def frs (K:Nat)(ts:List (Nat×(Nat->Int))):List Nat:=(List.range K).filter λj=>!(isT ts j)
theorem C5 {D:List (List Int)×List (Int×Int)}{f:Int}{ms:List (Int×Int×Int×Int×Int)}(h:DG D)(hA:XY D.1=(K:Int))(hK:K<=100)(hp:PP p)(hf:¬f % p=0)(e1:ZN D= .ok ms)(hl:ms.length=N)(hN:N<=100)(hm:∀m∈ms,MG (K:Int) m)(hE:(ms.map XU).map (eqT K p f)=(List.range N).map λk=>Yx K (e k))(he:∀k,k<N->Ran p K (e k)):
  ∃ws ts,GI p K N e K ws ts/\Z0 D p f= .ok ((frs K ts).map (λ(j:Nat)=>(j:Int)),(frs K ts).map (λj=>Yx K (DE p ts j)),ts.map λt=>((t.1:Int),Yx N λk=>t.2 (K+k))):=by
 obtain⟨p1,p2,_⟩:=id hp
 obtain⟨told,et,ws,ts,rfl,hI⟩:=Mw hp (e:=e) (ws0:=(List.range N).map (w0 K e)) hK hN (by simp;omega) (EY (by omega) he)
 refine⟨ws,ts,hI,?_⟩
 have htl:ts.length<=100:=by
  have h1:(ts.map (·.1)).length<=(List.range K).length:=(List.nodup_iff_pairwise_ne.mpr (hI.inc.imp λh=>by omega)).length_le_of_subset λx hx=>by
   obtain⟨t,ht,rfl⟩:=List.mem_map.mp hx
   exact List.mem_range.mpr (hI.tl t ht).2.2.1
  simp at h1
  omega
 unfold Z0
 simp only[Rs.okb]
 rw[QH h.few h.short,hA,Xr,Rs.okb,Vp h hA (by omega) hp hf e1 (by omega) hm,Xr,Rs.okb,hE,Ma hK hN,Xr,Rs.okb,et,Xr,Rs.okb]
 rw[show DU [] (ts.map (Q2 (K+N)))=ts.map (Q2 (K+N)) from Bo (by rw[List.nil_append];exact hI.nodup),Zi (by omega),Rs.okb]
 have hkey:∀j:Nat,(Zp (ts.map (Q2 (K+N))) (j:Int)).isSome=isT ts j:=λj=>by
  rw[Bool.eq_iff_iff,B9,G1,List.map_map,List.mem_map]
  constructor
  ·rintro⟨t,ht,q⟩
   exact⟨t,ht,by have q:((t.1:Nat):Int)=(j:Int):=q;omega⟩
  ·rintro⟨t,ht,rfl⟩
   exact⟨t,ht,rfl⟩
 rw[JT (p:=λx:Int=>!(isT ts x.toNat)) (h:=λx=>x) (sz (by simp;omega)) (λx hx=>?_) λ_ _ _=>rfl]
 ·have e2:(((List.range K).map λ(i:Nat)=>(i:Int)).filter λx:Int=>!(isT ts x.toNat)).map (λx=>x)=(frs K ts).map (λ(j:Nat)=>(j:Int)):=by
   rw[List.map_id',List.filter_map]
   congr 1
  rw[e2,Rs.okb]
  have hfl:(frs K ts).length<=100:=by
   have:=List.length_filter_le (λj=>!(isT ts j)) (List.range K)
   unfold frs
   simp at this
   omega
  rw[YM (h:=λx:Int=>Yx K (DE p ts x.toNat)) (sz (by simp;omega)) λx hx=>?_,Rs.okb]
  ·rw[YM (h:=λx:Int×List Int=>(x.1,x.2.drop K)) (sz (by simp;omega)) λx hx=>?_,Rs.okb]
   ·have q1:((frs K ts).map (λ(j:Nat)=>(j:Int))).map (λx:Int=>Yx K (DE p ts x.toNat))=(frs K ts).map (λj=>Yx K (DE p ts j)):=by
     rw[List.map_map]
     exact List.map_congr_left λj _=>by
      show Yx K (DE p ts ((j:Int)).toNat)=_
      rw[Int.toNat_natCast]
    have q2:(ts.map (Q2 (K+N))).map (λx:Int×List Int=>(x.1,x.2.drop K))=ts.map λt=>((t.1:Int),Yx N λk=>t.2 (K+k)):=by
     rw[List.map_map]
     exact List.map_congr_left λt _=>by
      show((t.1:Int),(Yx (K+N) t.2).drop K)=_
      have:(Yx (K+N) t.2).drop K=Yx N λk=>t.2 (K+k):=by
       unfold Yx
       rw[List.range_add,List.map_append,List.drop_left' (by simp),List.map_map]
       rfl
      rw[this]
    rw[q1,q2]
   ·obtain⟨t,ht,rfl⟩:=List.mem_map.mp hx
    rw[show DM (Q2 (K+N) t).2 (some (K:Int)) none=(Q2 (K+N) t).2.drop K from HW _ (by show K<=(Yx (K+N) t.2).length;rw[ZG];omega)]
  ·obtain⟨j,hj,rfl⟩:=List.mem_map.mp hx
   have:=List.mem_range.mp (List.mem_filter.mp hj).1
   rw[KY hI (by omega) hK this,Xr,Int.toNat_natCast]
 ·obtain⟨i,hi,rfl⟩:=ZT hx
  rw[hkey,Int.toNat_natCast]
end
theorem HA {K:Nat}{p f:Int}{L:List (Int×Int×Int)}:L.map (eqT K p f)=(List.range L.length).map λk=>Yx K λj=>cfT f (L.getD k (0,0,0)) j % p:=by
 refine List.ext_getElem (by simp) λi h1 h2=>?_
 have hi:i<L.length:=by simpa using h1
 simp[eqT,Yx,hi]
section
variable {p:Int}{K N:Nat}{e:Nat->Nat->Int}{ws:List (Nat->Int)}{ts:List (Nat×(Nat->Int))}
theorem Zq {α:Type}{l:List α}{i:Nat}{d:α}(h:i<l.length):l.getD i d=l[i]:=by simp[h]
theorem CK (a b:Nat->Int):dot (Yx K a) (Yx K b)=Q3 K λj=>a j*b j:=by
 unfold dot Yx Q3
 rw[List.zip_map',List.map_map]
 rfl
theorem Ng {c:Nat->Int}:(((List.range N).map λk=>Yx K (e k)).all λl=>decide (dot l (Yx K c) % p=0))=true↔∀k,k<N->Kil p K (e k) c:=by
 rw[List.all_eq_true]
 constructor
 ·intro h k hk
  have:=of_decide_eq_true (h _ (List.mem_map.mpr ⟨k,List.mem_range.mpr hk,rfl⟩))
  rw[CK] at this
  unfold Kil Cg
  rw[Int.sub_zero]
  exact Int.dvd_of_emod_eq_zero this
 ·intro h l hl
  obtain⟨k,hk,rfl⟩:=List.mem_map.mp hl
  have:=h k (List.mem_range.mp hk)
  unfold Kil Cg at this
  rw[Int.sub_zero] at this
  rw[CK]
  exact decide_eq_true (Int.emod_eq_zero_of_dvd this)
theorem BF {t c:Nat->Int}(ht:Lin p K N e t)(h:∀k,k<N->Kil p K (e k) c):Kil p K t c:=by
 have key:∀n,n<=N->Kil p K (λj=>Q3 n λk=>t (K+k)*e k j) c:=by
  intro n
  induction n with
  |zero=>
   intro _
   exact Cg.of (Jz K λj _=>Int.zero_mul _)
  |succ n ih=>
   intro hn
   refine Di (ih (by omega)) (h n (by omega)) (u:=1) (v:=t (K+n)) λj _=>Cg.of ?_
   rw[Zm,Int.one_mul]
 unfold Kil
 exact(J8 K λj hj=>(ht j hj).mul (Cg.refl p (c j))).trans (key N (Nat.le_refl _))
theorem GB {r c d t:Nat->Int}{u v:Int}(hc:Kil p K r c)(hd:Kil p K r d)(h:∀j,j<K->Cg p (t j) (u*c j+v*d j)):Kil p K r t:=by
 unfold Kil at hc hd⊢
 have h1:Cg p (Q3 K λj=>r j*t j) (Q3 K λj=>u*(r j*c j)+v*(r j*d j)):=J8 K λj hj=>by
  have:=(Cg.refl p (r j)).mul (h j hj)
  rw[Int.mul_add,Int.mul_left_comm,Int.mul_left_comm (r j) v] at this
  exact this
 rw[Vz] at h1
 exact h1.trans ((((Cg.refl p u).mul hc).add ((Cg.refl p v).mul hd)).trans (Cg.of (by omega)))
theorem V5 {j:Nat}:j∈frs K ts↔j<K/\∀t∈ts,t.1≠j:=by
 unfold frs
 rw[List.mem_filter,List.mem_range]
 constructor
 ·rintro⟨h1,h2⟩
  refine⟨h1,λt ht z=>?_⟩
  rw[G1.mpr ⟨t,ht,z⟩] at h2
  cases h2
 ·rintro⟨h1,h2⟩
  refine⟨h1,?_⟩
  cases q:isT ts j with
  |false=>rfl
  |true=>
   obtain⟨t,ht,z⟩:=G1.mp q
   exact absurd z (h2 t ht)
theorem LP (h:GI p K N e K ws ts){t:Nat×(Nat->Int)}(ht:t∈ts){free:Nat}(hf:free∈frs K ts):Kil p K t.2 (DE p ts free):=by
 obtain⟨f1,f2⟩:=V5.mp hf
 obtain⟨h1,h2,h3,h4,h5,h6⟩:=h.tl t ht
 unfold Kil
 have e1:(Q3 K λj=>t.2 j*DE p ts free j)=Q3 K λj=>1*(if j=free then t.2 free else 0)+1*(if j=t.1 then(-(t.2 free)) % p else 0):=US K λj hj=>by
  by_cases q:∃t'∈ts,t'.1=j
  ·obtain⟨t',ht',rfl⟩:=q
   rw[KJ h.inc ht',if_neg (f2 t' ht')]
   by_cases q:t'.1=t.1
   ·rw[if_pos q,q,h4]
    have:t'=t:=by
     obtain⟨i,hi,rfl⟩:=List.mem_iff_getElem.mp ht'
     obtain⟨k,hk,rfl⟩:=List.mem_iff_getElem.mp ht
     have hinc:=h.inc
     rw[List.pairwise_map] at hinc
     rcases Nat.lt_trichotomy i k with z |z |z
     ·have:=List.pairwise_iff_getElem.mp hinc i k hi hk z;omega
     ·subst z;rfl
     ·have:=List.pairwise_iff_getElem.mp hinc k i hk hi z;omega
    rw[this];omega
   ·rw[if_neg q,h6 t' ht' q];omega
  ·have q:∀t'∈ts,t'.1≠j:=λt' ht' z=>q ⟨t',ht',z⟩
   rw[JI q,if_neg (show ¬j=t.1 from λz=>q t ht z.symm)]
   by_cases z:j=free
   ·rw[if_pos z,if_pos z,z];omega
   ·rw[if_neg z,if_neg z];omega
 rw[e1,Vz,Qg (k:=free) _ f1 λi _ hne=>if_neg hne,Qg (k:=t.1) _ h3 λi _ hne=>if_neg hne,if_pos rfl,if_pos rfl]
 refine((Cg.refl p _).add ((Cg.refl p 1).mul (Cg.emod ..))).trans (Cg.of ?_)
 omega
theorem IU (h:GI p K N e K ws ts){c:Nat->Int}(hc:∀t∈ts,Kil p K t.2 c):∀k,k<N->Kil p K (e k) c:=
 h.sp c (λr hr=>Cg.of (Jz K λj hj=>by rw[(h.wl r hr).2.2 j hj,Int.zero_mul])) hc
end
theorem K7 {α γ ρ:Type}{F:γ->α->Rs (Ctl ρ γ)}{p:α->Bool}{v:ρ}{g:γ}:∀{as:List α},(∀a∈as,F g a= .ok (if p a=true then .ret v else .nx g))->forC as g F= .ok (if as.any p=true then .ret v else .nx g)
 | [],_=>rfl
 |a::as,h=>by
  show(F g a).bind _=_
  rw[h a (by simp),Rs.okb,List.any_cons]
  cases hp:p a with
  |true=>rw[if_pos rfl];rfl
  |false=>
   rw[if_neg Bool.false_ne_true,Bool.false_or]
   exact K7 λb hb=>h b (by simp[hb])
noncomputable def held (f:Nat->Nat->Nat)(cn:Int->Nat)(m:Int×Int×Int×Int×Int):Bool:=if m.2.1=1 then decide ((f (cn m.2.2.2.1) (cn m.2.2.1):Int)=cn m.2.2.2.2) else decide ((f (cn m.2.2.2.2) (cn m.2.2.1):Int)=cn m.2.2.2.1)
section
variable {n:Nat}{f:Nat->Nat->Nat}{c:List Int}{cn:Int->Nat}{N:Int}
theorem GZ {ms:List (Int×Int×Int×Int×Int)}(hl:ms.length<=1000)(hc:∀k,0<=k->k<N->atR c k= .ok (cn k:Int)/\cn k<n)(hm:∀m∈ms,MG N m):ZI (Vq n f) c (ms.map XU)= .ok (ms.all (held f cn)):=by
 unfold ZI
 simp only[Rs.okb]
 rw[YM (h:=λt:Int×Int×Int=>decide ((f (cn t.1) (cn t.2.1):Int)=cn t.2.2)) (sz (by simp;omega)) λt ht=>?_]
 ·rw[Rs.okb,List.map_map]
  congr 1
  rw[List.all_map]
  refine congrArg (λF=>ms.all F) (funext λm=>?_)
  show decide _=held f cn m
  unfold held XU
  by_cases s:m.2.1=1
  ·simp only[if_pos s]
  ·simp only[if_neg s]
 ·obtain⟨m,h,rfl⟩:=List.mem_map.mp ht
  obtain⟨s,⟨o0,o1⟩,⟨a0,a1⟩,b0,b1⟩:=hm m h
  have key:∀x y z:Int,0<=x->x<N->0<=y->y<N->0<=z->z<N->((((atR c x).bind λx9=>atR (Vq n f) x9).bind λx12=>(atR c y).bind λx13=>atR x12 x13).bind λx16=>(atR c z).bind λx17=>(Rs.ok (decide (x16=x17)):Rs Bool))= .ok (decide ((f (cn x) (cn y):Int)=cn z)):=λx y z x0 x1 y0 y1 z0 z1=>by
   rw[(hc x x0 x1).1,(hc y y0 y1).1,(hc z z0 z1).1]
   simp only[Rs.okb]
   rw[Nc (hc x x0 x1).2]
   simp only[Rs.okb]
   rw[MQ (hc y y0 y1).2]
   simp only[Rs.okb]
  unfold XU
  by_cases s:m.2.1=1
  ·rw[if_pos s];exact key _ _ _ a0 a1 o0 o1 b0 b1
  ·rw[if_neg s];exact key _ _ _ b0 b1 o0 o1 a0 a1
end
theorem Li {c:List Int}{n:Nat}{N:Int}(hN:(c.length:Int)=N)(hc:∀x∈c,0<=x/\x<(n:Int)):∀k,0<=k->k<N->atR c k= .ok (((c.getD k.toNat 0).toNat:Nat):Int)/\(c.getD k.toNat 0).toNat<n:=λk k0 k1=>by
 have hk:k.toNat<c.length:=by omega
 have hx:=hc c[k.toNat] (List.getElem_mem hk)
 have e:c.getD k.toNat 0=c[k.toNat]:=by simp[hk]
 rw[e]
 refine⟨?_,by omega⟩
 rw[Zh (n:=k.toNat) (by omega) hk]
 congr 1
 omega
theorem L6 (o a b:Int):Gg [o,a,b]=max (max o a) b:=rfl
theorem BG {n i j:Nat}(hn:0<n)(h:i<=j):n^i<=n^j:=Nat.pow_le_pow_right hn h
theorem Ly {c:List Int}{n k:Nat}(hl:c.length=k)(hc:∀x∈c,0<=x/\x<(n:Int)):∀j,0<=j->j<(k:Int)->atR c j= .ok (((c.getD j.toNat 0).toNat:Nat):Int)/\(c.getD j.toNat 0).toNat<n:=Li (by omega) hc
theorem VW {α β:Type}{F:List β->α->Rs (List β)}{p:α->Bool}{h:α->β}:∀{as:List α}{g:List β},g.length+as.length<=100000->(∀(g:List β) a,a∈as->g.length<100000->F g a= .ok (if p a=true then g++[h a] else g))->forN as g F= .ok (g++(as.filter p).map h)
 | [],g,_,_=>by rw[List.filter_nil,List.map_nil,List.append_nil];rfl
 |a::as,g,hl,hf=>by
  show(F g a).bind _=_
  rw[List.length_cons] at hl
  rw[hf g a List.mem_cons_self (by omega),Rs.okb]
  cases hp:p a with
  |true=>
   rw[if_pos rfl,List.filter_cons_of_pos hp,List.map_cons]
   refine(VW (by simp;omega) λg b hb=>hf g b (List.mem_cons_of_mem _ hb)).trans ?_
   rw[List.append_assoc];rfl
  |false=>
   rw[if_neg Bool.false_ne_true,List.filter_cons_of_neg (by rw[hp];exact Bool.false_ne_true)]
   exact VW (by omega) λg b hb=>hf g b (List.mem_cons_of_mem _ hb)
noncomputable abbrev M5:=Int×Int×Int×Int×Int
noncomputable def VX (c:List Int)(i:Int):Nat:=(c.getD i.toNat 0).toNat
noncomputable def Jh (n:Nat)(f:Nat->Nat->Nat)(ms:List M5)(c:List Int):List (List Int):=((((List.range n).map λ(i:Nat)=>(i:Int))).filter λj=>ms.all (held f (VX (c++[j])))).map λj=>c++[j]
noncomputable def Fb (n:Nat)(f:Nat->Nat->Nat)(ms:List M5)(T:List (List Int)):List (List Int):=T.flatMap (Jh n f ms)
noncomputable def Ce (k:Nat)(m:M5):Bool:=decide (Gg [m.2.2.1,m.2.2.2.1,m.2.2.2.2]=(k:Int))
noncomputable def TT (n:Nat)(f:Nat->Nat->Nat)(ms:List M5):Nat->List (List Int)
 |0=>[[]]
 |k+1=>Fb n f (ms.filter (Ce k)) (TT n f ms k)
noncomputable def NY (n k:Nat)(T:List (List Int)):Prop:=T.length<=n^k/\∀c∈T,c.length=k/\∀x∈c,0<=x/\x<(n:Int)
section
variable {n:Nat}{f:Nat->Nat->Nat}{ms:List M5}
theorem De (c:List Int):(Jh n f ms c).length<=n:=by
 unfold Jh
 rw[List.length_map]
 exact Nat.le_trans (List.length_filter_le ..) (by simp)
theorem F4:∀T:List (List Int),(Fb n f ms T).length<=T.length*n
 | []=>by simp[Fb]
 |c::T=>by
  have h:=F4 T
  have h2:=De (n:=n) (f:=f) (ms:=ms) c
  unfold Fb at h⊢
  rw[List.flatMap_cons,List.length_append,List.length_cons,Nat.succ_mul]
  omega
theorem Et {k:Nat}{T:List (List Int)}(h:NY n k T):NY n (k+1) (Fb n f ms T):=by
 refine⟨Nat.le_trans (F4 T) (by rw[Nat.pow_succ];exact Nat.mul_le_mul_right n h.1),λd hd=>?_⟩
 obtain⟨c,hc,hd⟩:=List.mem_flatMap.mp hd
 unfold Jh at hd
 obtain⟨j,hj,rfl⟩:=List.mem_map.mp hd
 obtain⟨i,hi,rfl⟩:=ZT (List.mem_filter.mp hj).1
 obtain⟨h1,h2⟩:=h.2 c hc
 refine⟨by simp[h1],λx hx=>?_⟩
 rcases List.mem_append.mp hx with z |z
 ·exact h2 x z
 ·rw[List.mem_singleton] at z;omega
theorem Fg:∀k,NY n k (TT n f ms k)
 |0=>⟨by simp[TT],λc hc=>by
  have:c=[]:=by simpa[TT] using hc
  subst this
  exact⟨rfl,λx hx=>by cases hx⟩⟩
 |k+1=>Et (Fg k)
theorem outer {F:List (List Int)->List Int->Rs (List (List Int))}{T:List (List Int)}(hT:T.length*n<=90000)(hF:∀(g:List (List Int)) c,c∈T->g.length+n<=90000->F g c= .ok (g++Jh n f ms c)):forN T [] F= .ok (Fb n f ms T):=by
 obtain⟨r,e,h⟩:=U7 (f:=F) (λi (g:List (List Int))=>g=(T.take i).flatMap (Jh n f ms)/\g.length<=i*n) (as:=T) (g:=[]) ⟨by simp,by simp⟩ λi c g hc hg=>by
  have hi:=(List.getElem?_eq_some_iff.mp hc).1
  obtain⟨h1,h2⟩:=hg
  have h3:(i+1)*n<=T.length*n:=Nat.mul_le_mul_right n (by omega)
  rw[Nat.succ_mul] at h3
  refine⟨_,hF g c (List.mem_of_getElem? hc) (by omega),?_,?_⟩
  ·rw[List.take_add_one,hc,List.flatMap_append, ←h1]
   simp
  ·rw[List.length_append,Nat.succ_mul]
   have:=De (n:=n) (f:=f) (ms:=ms) c
   omega
 rw[e,h.1,List.take_length]
 rfl
theorem MF {N:Int}(hm:∀m∈ms,MG N m)(k:Nat):∀m∈ms.filter (Ce k),MG ((k+1:Nat):Int) m:=λm h=>by
 obtain⟨h1,h2⟩:=List.mem_filter.mp h
 unfold Ce at h2
 rw[decide_eq_true_eq,L6] at h2
 obtain⟨s,o,a,b⟩:=hm m h1
 exact⟨s,⟨o.1,by omega⟩,⟨a.1,by omega⟩,b.1,by omega⟩
theorem Oi {c:List Int}{k:Nat}(h1:c.length=k)(h2:∀x∈c,0<=x/\x<(n:Int)){j:Nat}(hj:j<n):∀i,0<=i->i<((k+1:Nat):Int)->atR (c++[(j:Int)]) i= .ok (VX (c++[(j:Int)]) i:Int)/\VX (c++[(j:Int)]) i<n:=
 Ly (k:=k+1) (by simp[h1]) λx hx=>by
  rcases List.mem_append.mp hx with z |z
  ·exact h2 x z
  ·rw[List.mem_singleton] at z;omega
theorem OC {c:List Int}{j:Int}(h:c.length<=1000):((chk ([j].length<=sizeLine) (Rs.ok [j])).bind λx=>DL c x)= .ok (c++[j]):=by
 rw[XD (sz (by simp)),Rs.okb]
 exact XD (sz (by simp;omega))
theorem BK {N:Int}{k:Nat}{T:List (List Int)}(hk:k<=900)(hl:ms.length<=1000)(hm:∀m∈ms,MG N m)(hT:NY n k T)(hb:T.length*n<=90000)(hn:n<=1000):YG T (Vq n f) ((ms.filter (Ce k)).map XU)= .ok (Fb n f (ms.filter (Ce k)) T):=by
 unfold YG
 simp only[Rs.okb,Vk]
 rw[outer (n:=n) (f:=f) (ms:=ms.filter (Ce k)) hb,Rs.okb]
 intro g c hc hg
 obtain⟨h1,h2⟩:=hT.2 c hc
 rw[Zi (by omega),Rs.okb,VW (p:=λj=>(ms.filter (Ce k)).all (held f (VX (c++[j])))) (h:=λj=>c++[j]) (by simp;omega),Rs.okb]
 ·rfl
 intro g' a ha hg'
 obtain⟨j,hj,rfl⟩:=ZT ha
 rw[OC (by omega),Rs.okb,GZ (cn:=VX (c++[(j:Int)])) (Nat.le_trans (List.length_filter_le ..) hl) (Oi h1 h2 hj) (MF hm k),Xr,Rs.okb]
 cases(ms.filter (Ce k)).all (held f (VX (c++[(j:Int)]))) with
 |true=>rw[if_pos rfl,XD (CA (by omega))];rfl
 |false=>rw[if_neg Bool.false_ne_true];rfl
theorem Mi (k:Nat):(ms.map XU).filter (λt=>decide (Gg [t.1,t.2.1,t.2.2]=(k:Int)))=(ms.filter (Ce k)).map XU:=by
 induction ms with
 |nil=>rfl
 |cons m t ih=>
  have e:decide (Gg [(XU m).1,(XU m).2.1,(XU m).2.2]=(k:Int))=Ce k m:=by
   unfold XU Ce
   rw[L6]
   by_cases s:m.2.1=1
   ·rw[if_pos s,L6]
    congr 1
    rw[Int.max_comm m.2.2.2.1 m.2.2.1]
   ·rw[if_neg s,L6]
    congr 1
    rw[Int.max_comm m.2.2.2.2 m.2.2.1,Int.max_assoc,Int.max_comm m.2.2.2.2, ←Int.max_assoc]
  rw[List.map_cons,List.filter_cons,List.filter_cons,e,ih]
  cases Ce k m<;> rfl
end
section
variable {D:List (List Int)×List (Int×Int)}{n K:Nat}{f:Nat->Nat->Nat}
theorem MY (h:DG D)(hn:0<n)(h24:n<=100)(hK:XY D.1=(K:Int))(hp:n^K<=65000)(hK2:K<=900){ms:List M5}(e1:ZN D= .ok ms)(hl:ms.length<=1000)(hm:∀m∈ms,MG (XY D.1) m):Yv D (Vq n f)= .ok (TT n f ms K):=by
 unfold Yv
 simp only[Rs.okb,Vk]
 rw[QH h.few h.short,Xr,Rs.okb,hK]
 have er:Yi (n:Int) (K:Int)= .ok ():=by
  unfold Yi
  simp only[Rs.okb]
  rw[Zi (by omega),Rs.okb]
  apply Ok.eq
  refine Ok.bind (Ok.forN (λi (g:Int)=>g=((n^i:Nat):Int)) rfl λi a g ha hg=>?_) λg hg=>?_
  ·subst hg
   rw[Z5 (by omega) (by omega),Rs.okb]
   refine⟨_,rfl,?_⟩
   rw[Nat.pow_succ]
   exact(Int.natCast_mul _ _).symm
  ·rw[YE] at hg
   subst hg
   rw[if_neg (by simp only[decide_eq_true_eq];omega)]
   exact⟨_,rfl,rfl⟩
 rw[er,Xr,Rs.okb,Bk e1 hl,Xr,Rs.okb,XD (sz (by simp)),Rs.okb,Zi (by omega),Rs.okb]
 apply Ok.eq
 refine Ok.bind (Ok.forN (λk (T:List (List Int))=>T=TT n f ms k) rfl λk a T ha hT=>?_) λT hT=>?_
 ·obtain⟨rfl,hk⟩:=YN ha
  subst hT
  have hc:=Fg (n:=n) (f:=f) (ms:=ms) k
  have hpk:n^(k+1)<=65000:=Nat.le_trans (BG hn (by omega)) hp
  have hb:(TT n f ms k).length*n<=90000:=by
   have:=Nat.mul_le_mul_right n hc.1
   have e:n^(k+1)=n^k*n:=Nat.pow_succ ..
   omega
  rw[JT (as:=ms.map XU) (f:=λt=>Rs.ok t) (p:=λt:Int×Int×Int=>decide (Gg [t.1,t.2.1,t.2.2]=(k:Int))) (h:=λt=>t) (sz (by rw[List.length_map];omega)) (λt _=>(by rw[show Ov [t.1,t.2.1,t.2.2]= .ok (Gg [t.1,t.2.1,t.2.2]) from rfl];rfl)) λ_ _ _=>rfl,List.map_id',Rs.okb,Mi,BK (by omega) hl hm hc hb (by omega),Xr]
  exact⟨_,rfl,rfl⟩
 ·rw[YE] at hT
  exact⟨_,rfl,hT⟩
end
section
variable {n:Nat}{f:Nat->Nat->Nat}{ms:List M5}
noncomputable def mx (m:M5):Int:=Gg [m.2.2.1,m.2.2.2.1,m.2.2.2.2]
theorem Dx {cn cn':Int->Nat}{m:M5}(h1:cn m.2.2.1=cn' m.2.2.1)(h2:cn m.2.2.2.1=cn' m.2.2.2.1)(h3:cn m.2.2.2.2=cn' m.2.2.2.2):held f cn m=held f cn' m:=by
 unfold held
 rw[h1,h2,h3]
theorem B5 {c:List Int}{j:Int}{i:Int}(h0:0<=i)(h:i<(c.length:Int)):VX (c++[j]) i=VX c i:=by
 unfold VX
 rw[List.getD_eq_getElem?_getD,List.getD_eq_getElem?_getD,List.getElem?_append_left (by omega)]
theorem FE {c:List Int}{j:Int}{N:Int}{m:M5}(hm:MG N m)(hk:mx m<(c.length:Int)):held f (VX (c++[j])) m=held f (VX c) m:=by
 have e:mx m=max (max m.2.2.1 m.2.2.2.1) m.2.2.2.2:=L6 ..
 obtain⟨_,h1,h2,h3⟩:=hm
 exact Dx (B5 h1.1 (by omega)) (B5 h2.1 (by omega)) (B5 h3.1 (by omega))
noncomputable def Lk (f:Nat->Nat->Nat)(ms:List M5)(k:Nat)(c:List Int):Prop:=∀ m∈ms,mx m<(k:Int)->held f (VX c) m=true
theorem VA {c d:List Int}:d∈Jh n f ms c↔∃j:Nat,j<n/\(∀m∈ms,held f (VX (c++[(j:Int)])) m=true)/\d=c++[(j:Int)]:=by
 unfold Jh
 rw[List.mem_map]
 constructor
 ·rintro⟨j,hj,rfl⟩
  obtain⟨h1,h2⟩:=List.mem_filter.mp hj
  obtain⟨i,hi,rfl⟩:=ZT h1
  exact⟨i,hi,List.all_eq_true.mp h2,rfl⟩
 ·rintro⟨j,hj,h,rfl⟩
  exact⟨(j:Int),List.mem_filter.mpr ⟨List.mem_map.mpr ⟨j,List.mem_range.mpr hj,rfl⟩,List.all_eq_true.mpr h⟩,rfl⟩
theorem Iv {N:Int}(hm:∀m∈ms,MG N m):∀(k:Nat) (c:List Int),c∈TT n f ms k↔c.length=k/\(∀x∈c,0<=x/\x<(n:Int))/\Lk f ms k c:=by
 intro k
 induction k with
 |zero=>
  intro c
  constructor
  ·intro h
   have:c=[]:=by simpa[TT] using h
   subst this
   refine⟨rfl,(λx hx=>nomatch hx),λm hmm hk=>?_⟩
   have e:mx m=max (max m.2.2.1 m.2.2.2.1) m.2.2.2.2:=L6 ..
   obtain⟨_,h1,_⟩:=hm m hmm
   omega
  ·rintro⟨h,_⟩
   rw[List.length_eq_zero_iff.mp h]
   simp[TT]
 |succ k ih=>
  intro d
  show d∈(TT n f ms k).flatMap (Jh n f (ms.filter (Ce k)))↔_
  rw[List.mem_flatMap]
  constructor
  ·rintro⟨c,hc,hd⟩
   obtain⟨hl,hx,hh⟩:=(ih c).mp hc
   obtain⟨j,hj,hj2,rfl⟩:=VA.mp hd
   refine⟨by simp[hl],λx h=>?_,λm hmm hk=>?_⟩
   ·rcases List.mem_append.mp h with h |h
    ·exact hx x h
    ·rw[List.mem_singleton.mp h];omega
   ·by_cases e:mx m=(k:Int)
    ·exact hj2 m (List.mem_filter.mpr ⟨hmm,decide_eq_true e⟩)
    ·rw[FE (hm m hmm) (by omega)]
     exact hh m hmm (by omega)
  ·rintro⟨hl,hx,hh⟩
   have hne:d≠ []:=λz=>by rw[z] at hl;cases hl
   have hd:=List.dropLast_concat_getLast hne
   have hlast:=hx _ (List.getLast_mem hne)
   obtain⟨j,hj⟩:∃j:Nat,d.getLast hne=(j:Int):=⟨(d.getLast hne).toNat,by omega⟩
   rw[hj] at hd hlast
   have hcl:d.dropLast.length=k:=by rw[List.length_dropLast];omega
   refine⟨d.dropLast,(ih _).mpr ⟨hcl,λx h=>hx x ((List.dropLast_sublist d).mem h),λm hmm hk=>?_⟩,VA.mpr ⟨j,by omega,λm hmm=>?_,hd.symm⟩⟩
   ·have:=hh m hmm (by omega)
    rw[←hd,FE (hm m hmm) (by omega)] at this
    exact this
   ·obtain⟨h1,h2⟩:=List.mem_filter.mp hmm
    have h2:mx m=(k:Int):=of_decide_eq_true h2
    rw[hd]
    exact hh m h1 (by omega)
end
section
variable {n:Nat}
theorem JC {α β:Type}{f:α->β}:∀{l:List α},(∀a b,a∈l->b∈l->f a=f b->a=b)->l.Nodup->(l.map f).Nodup
 | [],_,_=>List.nodup_nil
 |x::l,h,hn=>by
  have h2:=List.nodup_cons.mp hn
  refine List.nodup_cons.mpr ⟨λhm=>?_,JC (λa b ha hb=>h a b (.tail _ ha) (.tail _ hb)) h2.2⟩
  obtain⟨y,hy,e⟩:=List.mem_map.mp hm
  exact h2.1 ((h y x (.tail _ hy) (.head _) e)▸hy)
theorem Uc {α:Type}[DecidableEq α]:∀{l m:List α},l.Nodup->(∀x∈l,x∈m)->l.length<=m.length
 | [],m,_,_=>Nat.zero_le _
 |x::l,m,h,hs=>by
  have hx:=hs x (.head _)
  have h2:=List.nodup_cons.mp h
  have:=Uc (l:=l) (m:=m.erase x) h2.2 λy hy=>(List.mem_erase_of_ne λe=>h2.1 (by rw[←e];exact hy)).mpr (hs y (.tail _ hy))
  rw[List.length_erase_of_mem hx] at this
  have:=List.length_pos_of_mem hx
  rw[List.length_cons]
  omega
end
section
variable {n:Nat}{f:Nat->Nat->Nat}{ms:List M5}
theorem Ci (c:List Int):(Jh n f ms c).Nodup:=by
 unfold Jh
 refine JC (λx y _ _ e=>?_) (List.Pairwise.filter _ (JC (λx y _ _ e=>by omega) List.nodup_range))
 have:=List.append_cancel_left e
 simpa using this
theorem VF:∀k:Nat,(TT n f ms k).Nodup
 |0=>by simp[TT]
 |k+1=>by
  show((TT n f ms k).flatMap _).Nodup
  rw[List.nodup_iff_pairwise_ne,List.pairwise_flatMap]
  refine⟨λc _=>(Ci c),?_⟩
  have hc:=(Fg (n:=n) (f:=f) (ms:=ms) k).2
  have:=List.nodup_iff_pairwise_ne.mp (VF k)
  refine List.Pairwise.imp_of_mem (fun {a b} ha hb hne x hx y hy e=>hne ?_) this
  obtain⟨i,_,_,rfl⟩:=VA.mp hx
  obtain⟨j,_,_,rfl⟩:=VA.mp hy
  have h1:=congrArg (List.take k) e
  rw[List.take_left' (hc a ha).1,List.take_left' (hc b hb).1] at h1
  exact h1
end
section
variable {p:Int}{K N:Nat}{e:Nat->Nat->Int}{ws:List (Nat->Int)}{ts:List (Nat×(Nat->Int))}
noncomputable def tot (p:Int)(K:Nat)(ts:List (Nat×(Nat->Int)))(ν:Nat->Int)(M:Nat)(j:Nat):Int:=Q3 M λk=>ν k*DE p ts ((frs K ts).getD k 0) j
theorem La (h:GI p K N e K ws ts){ν:Nat->Int}{t:Nat×(Nat->Int)}(ht:t∈ts):∀M,M<=(frs K ts).length->Kil p K t.2 (tot p K ts ν M):=by
 intro M
 induction M with
 |zero=>intro _;exact Cg.of (Jz K λj _=>Int.mul_zero _)
 |succ M ih=>
  intro hM
  refine GB (ih (by omega)) (LP h ht (free:=(frs K ts).getD M 0) (by rw[Zq (by omega)];exact List.getElem_mem _)) (u:=1) (v:=ν M) λj _=>Cg.of ?_
  unfold tot
  rw[Zm,Int.one_mul]
theorem Co:(frs K ts).Pairwise (· < ·):=List.Pairwise.filter _ List.pairwise_lt_range
end
noncomputable abbrev AV (n k:Nat):List (List Int):=TT n (λ_ _=>0) [] k
theorem UK {n k:Nat}{c:List Int}:c∈AV n k↔c.length=k/\∀x∈c,0<=x/\x<(n:Int):=by
 rw[Iv (ms:=([]:List M5)) (N:=0) (λm h=>by cases h) k c]
 exact⟨λh=>⟨h.1,h.2.1⟩,λh=>⟨h.1,h.2,λm h=>by cases h⟩⟩
theorem NR (n:Nat)(c:List Int):Jh n (λ_ _=>0) [] c=((List.range n).map λ(i:Nat)=>(i:Int)).map λj=>c++[j]:=by
 unfold Jh
 congr 1
 exact List.filter_eq_self.mpr λ_ _=>rfl
theorem Dj (n:Nat):∀k,(AV n k).length=n^k
 |0=>rfl
 |k+1=>by
  have fl:∀T:List (List Int),(T.flatMap (Jh n (λ_ _=>0) [])).length=T.length*n:=λT=>by
   induction T with
   |nil=>simp
   |cons x T ih=>rw[List.flatMap_cons,List.length_append,ih,NR,List.length_cons,Nat.succ_mul];simp;omega
  show((AV n k).flatMap (Jh n (λ_ _=>0) [])).length=_
  rw[fl,Dj n k,Nat.pow_succ]
theorem Ky {M:Nat}{r:Nat->Int}{j:Nat}(h:j<M):(Yx M r).getD j 0=r j:=by simp[Yx,h]
theorem EF {K:Nat}{c:List Int}(h:c.length=K):c=Yx K λj=>c.getD j 0:=by
 apply List.ext_getElem (by rw[ZG];exact h)
 intro i h1 h2
 rw[←Zq (d:=0) h2,Ky (by omega),Zq h1]
section
variable {P K N:Nat}{p:Int}{e:Nat->Nat->Int}{ws:List (Nat->Int)}{ts:List (Nat×(Nat->Int))}
noncomputable def Sol (P K N:Nat)(e:Nat->Nat->Int):List (List Int):=(AV P K).filter λc=>((List.range N).map λk=>Yx K (e k)).all λl=>decide (dot l c % (P:Int)=0)
theorem Ux {c:List Int}:c∈Sol P K N e↔(c.length=K/\∀x∈c,0<=x/\x<(P:Int))/\∀k,k<N->Kil (P:Int) K (e k) λj=>c.getD j 0:=by
 unfold Sol
 rw[List.mem_filter,UK]
 constructor
 ·rintro⟨h1,h2⟩
  rw[EF h1.1] at h2
  exact⟨h1,Ng.mp h2⟩
 ·rintro⟨h1,h2⟩
  refine⟨h1,?_⟩
  rw[EF h1.1]
  exact Ng.mpr h2
theorem IG:(Sol P K N e).Nodup:=List.Pairwise.filter _ (VF K)
theorem Q1 {c:List Int}(hc:c.length=K)(hx:∀x∈c,0<=x/\x<(P:Int)){j:Nat}(hj:j<K):0<=c.getD j 0/\c.getD j 0<(P:Int):=by
 rw[Zq (by omega)]
 exact hx _ (List.getElem_mem _)
theorem IJ (h:GI (P:Int) K N e K ws ts){c d:List Int}(hc:c∈Sol P K N e)(hd:d∈Sol P K N e)(hf:∀j∈frs K ts,c.getD j 0=d.getD j 0):c=d:=by
 obtain⟨⟨c1,c2⟩,c3⟩:=Ux.mp hc
 obtain⟨⟨d1,d2⟩,d3⟩:=Ux.mp hd
 have key:∀j,j<K->c.getD j 0=d.getD j 0:=λj hj=>by
  by_cases hm:j∈frs K ts
  ·exact hf j hm
  ·obtain⟨t,ht,rfl⟩:∃t∈ts,t.1=j:=by
    refine Classical.byContradiction λz=>hm (V5.mpr ⟨hj,λt ht e=>z ⟨t,ht,e⟩⟩)
   obtain⟨tl,_,_,t1,_,t3⟩:=h.tl t ht
   have k1:=BF tl c3
   have k2:=BF tl d3
   have k3:Kil (P:Int) K t.2 λi=>c.getD i 0-d.getD i 0:=GB k1 k2 (u:=1) (v:=-1) λi _=>Cg.of (by omega)
   unfold Kil at k3
   rw[Qg (k:=t.1) _ hj λi hi hne=>?_,t1,Int.one_mul] at k3
   ·have a:=Q1 c1 c2 hj
    have b:=Q1 d1 d2 hj
    exact Cg.eq (by unfold Cg at k3⊢;rwa [Int.sub_zero] at k3) a b
   ·by_cases hi2:i∈frs K ts
    ·show t.2 i*(c.getD i 0-d.getD i 0)=0
     rw[hf i hi2,Int.sub_self,Int.mul_zero]
    ·obtain⟨t',ht',rfl⟩:∃t∈ts,t.1=i:=by
      refine Classical.byContradiction λz=>hi2 (V5.mpr ⟨hi,λt ht e=>z ⟨t,ht,e⟩⟩)
     rw[t3 t' ht' hne,Int.zero_mul]
 apply List.ext_getElem (by omega)
 intro i h1 h2
 have:=key i (by omega)
 rwa [Zq h1,Zq h2] at this
noncomputable def mk (P K:Nat)(ts:List (Nat×(Nat->Int)))(ν:List Int):List Int:=Yx K λj=>tot (P:Int) K ts (λk=>ν.getD k 0) (frs K ts).length j % (P:Int)
theorem CW (hP:1<P){ν:List Int}(hl:ν.length=(frs K ts).length)(hx:∀x∈ν,0<=x/\x<(P:Int)){i:Nat}(hi:i<(frs K ts).length):(mk P K ts ν).getD ((frs K ts).getD i 0) 0=ν.getD i 0:=by
 have hm:(frs K ts).getD i 0∈frs K ts:=by rw[Zq hi];exact List.getElem_mem _
 obtain⟨h1,h2⟩:=V5.mp hm
 unfold mk
 rw[Ky h1]
 have:tot (P:Int) K ts (λk=>ν.getD k 0) (frs K ts).length ((frs K ts).getD i 0)=ν.getD i 0:=by
  unfold tot
  rw[Qg (k:=i) _ hi λk hk hne=>?_,JI h2,if_pos rfl,Int.mul_one]
  rw[JI h2,if_neg,Int.mul_zero]
  intro e
  rw[Zq hi,Zq hk] at e
  rcases Nat.lt_or_gt_of_ne hne with z |z
  ·have:=List.pairwise_iff_getElem.mp (Co (K:=K) (ts:=ts)) k i hk hi z
   omega
  ·have:=List.pairwise_iff_getElem.mp (Co (K:=K) (ts:=ts)) i k hi hk z
   omega
 rw[this]
 have:=Q1 hl hx hi
 exact Int.emod_eq_of_lt this.1 this.2
theorem MC (h:GI (P:Int) K N e K ws ts)(hP:1<P)(ν:List Int):mk P K ts ν∈Sol P K N e:=by
 refine Ux.mpr ⟨⟨ZG _ _,λx hx=>?_⟩,IU h λt ht=>?_⟩
 ·obtain⟨j,_,rfl⟩:=List.mem_map.mp hx
  exact Jt (by omega) _
 ·have k1:=La h (ν:=λk=>ν.getD k 0) ht (frs K ts).length (Nat.le_refl _)
  unfold Kil at k1⊢
  refine Cg.trans (J8 K λj hj=>?_) k1
  show Cg _ (t.2 j*(mk P K ts ν).getD j 0) _
  unfold mk
  rw[Ky hj]
  exact Cg.mul (Cg.refl _ _) (Cg.emod _ _)
theorem Lr (h:GI (P:Int) K N e K ws ts)(hP:1<P):(Sol P K N e).length=P^(frs K ts).length:=by
 rw[←Dj]
 refine Nat.le_antisymm ?_ ?_
 ·have:=Uc (l:=(Sol P K N e).map λc=>(frs K ts).map λj=>c.getD j 0) (m:=AV P (frs K ts).length) (JC (λc d hc hd q=>IJ h hc hd λj hj=>?_) IG) λx hx=>?_
  ·rwa [List.length_map] at this
  ·exact List.map_inj_left.mp q j hj
  ·obtain⟨c,hc,rfl⟩:=List.mem_map.mp hx
   obtain⟨⟨c1,c2⟩,_⟩:=Ux.mp hc
   refine UK.mpr ⟨List.length_map _,λy hy=>?_⟩
   obtain⟨j,hj,rfl⟩:=List.mem_map.mp hy
   exact Q1 c1 c2 (V5.mp hj).1
 ·have:=Uc (l:=(AV P (frs K ts).length).map (mk P K ts)) (m:=Sol P K N e) (JC (λc d hc hd q=>?_) (VF _)) λx hx=>?_
  ·rwa [List.length_map] at this
  ·obtain⟨c1,c2⟩:=UK.mp hc
   obtain⟨d1,d2⟩:=UK.mp hd
   apply List.ext_getElem (by omega)
   intro i h1 h2
   have a:=CW hP c1 c2 (i:=i) (by omega)
   have b:=CW hP d1 d2 (i:=i) (by omega)
   rw[q] at a
   rw[a] at b
   rwa [Zq h1,Zq h2] at b
  ·obtain⟨ν,_,rfl⟩:=List.mem_map.mp hx
   exact MC h hP ν
end
noncomputable def scF (P:Nat)(f:Int)(a b:Nat):Nat:=((f*(a:Int)+(1-f)*(b:Int)) % (P:Int)).toNat
theorem MO {K:Nat}{f:Int}{t:Int×Int×Int}(c:Nat->Int)(a:0<=t.1/\t.1<(K:Int))(b:0<=t.2.1/\t.2.1<(K:Int))(d:0<=t.2.2/\t.2.2<(K:Int)):Q3 K (λj=>cfT f t j*c j)=f*c t.1.toNat+(1-f)*c t.2.1.toNat-c t.2.2.toNat:=by
 have one:∀(s v:Int),0<=s->s<(K:Int)->Q3 K (λj=>(if(j:Int)=s then v else 0)*c j)=v*c s.toNat:=λs v h0 h1=>by
  rw[Qg (k:=s.toNat) _ (by omega) λi _ hne=>by rw[if_neg (by omega),Int.zero_mul],if_pos (by omega)]
 have e1:Q3 K (λj=>cfT f t j*c j)=Q3 K (λj=>(if(j:Int)=t.1 then f else 0)*c j)+Q3 K (λj=>(if(j:Int)=t.2.1 then 1-f else 0)*c j)+Q3 K (λj=>(if(j:Int)=t.2.2 then-1 else 0)*c j):=by
  unfold Q3
  rw[←BV, ←BV]
  congr 1
  refine List.map_congr_left λj _=>?_
  unfold cfT
  rw[Int.add_mul,Int.add_mul,Int.add_mul,Int.zero_mul,Int.zero_add]
 rw[e1,one _ _ a.1 a.2,one _ _ b.1 b.2,one _ _ d.1 d.2]
 omega
theorem FD {P K:Nat}{f:Int}{m:M5}(hP:0<P)(hm:MG (K:Int) m){c:List Int}(hl:c.length=K)(hx:∀x∈c,0<=x/\x<(P:Int)):held (scF P f) (VX c) m=true↔Kil (P:Int) K (λj=>cfT f (XU m) j % (P:Int)) λj=>c.getD j 0:=by
 obtain⟨a,b,d⟩:=Bw hm
 have cn:∀i:Int,0<=i->i<(K:Int)->((VX c i:Nat):Int)=c.getD i.toNat 0/\VX c i<P:=λi h0 h1=>by
  have:=Q1 hl hx (j:=i.toNat) (by omega)
  unfold VX
  omega
 have hh:held (scF P f) (VX c) m=decide (((scF P f (VX c (XU m).1) (VX c (XU m).2.1):Nat):Int)=(VX c (XU m).2.2:Int)):=by
  unfold held XU
  split<;> rfl
 rw[hh,decide_eq_true_eq]
 unfold Kil
 have e2:Cg (P:Int) (Q3 K λj=>cfT f (XU m) j % (P:Int)*c.getD j 0) (f*c.getD (XU m).1.toNat 0+(1-f)*c.getD (XU m).2.1.toNat 0-c.getD (XU m).2.2.toNat 0):=by
  rw[←MO (λj=>c.getD j 0) a b d]
  exact J8 K λj _=>Cg.mul (Cg.emod _ _) (Cg.refl _ _)
 have c1:=cn _ a.1 a.2
 have c2:=cn _ b.1 b.2
 have c3:=cn _ d.1 d.2
 unfold scF
 have r:=Jt (p:=(P:Int)) (by omega) (f*((VX c (XU m).1:Nat):Int)+(1-f)*((VX c (XU m).2.1:Nat):Int))
 rw[Int.toNat_of_nonneg r.1,c1.1,c2.1,c3.1]
 rw[c1.1,c2.1] at r
 have r3:=Q1 hl hx (j:=(XU m).2.2.toNat) (by omega)
 constructor
 ·intro h
  refine e2.trans ?_
  rw[←h]
  have:=(Cg.emod (P:Int) (f*c.getD (XU m).1.toNat 0+(1-f)*c.getD (XU m).2.1.toNat 0)).symm
  unfold Cg at this⊢
  rwa [Int.sub_zero]
 ·intro h
  have:=e2.symm.trans h
  refine Cg.rest ?_ r3
  unfold Cg at this⊢
  rwa [Int.sub_zero] at this
theorem BX {P K:Nat}{f:Int}{ms:List M5}(hP:0<P)(hm:∀m∈ms,MG (K:Int) m)(c:List Int):c∈TT P (scF P f) ms K↔c∈Sol P K ms.length λk j=>cfT f ((ms.map XU).getD k (0,0,0)) j % (P:Int):=by
 rw[Iv hm K c,Ux]
 constructor
 ·rintro⟨hl,hx,hh⟩
  refine⟨⟨hl,hx⟩,λk hk=>?_⟩
  have hmm:=List.getElem_mem hk
  have:=(FD hP (hm _ hmm) hl hx).mp (hh _ hmm (by
   obtain⟨_,h1,h2,h3⟩:=hm _ hmm
   show Gg _<_
   rw[L6];omega))
  rw[Zq (by rw[List.length_map];exact hk),List.getElem_map]
  exact this
 ·rintro⟨⟨hl,hx⟩,hh⟩
  refine⟨hl,hx,λm hmm _=>?_⟩
  obtain⟨k,hk,rfl⟩:=List.getElem_of_mem hmm
  have:=hh k hk
  rw[Zq (by rw[List.length_map];exact hk),List.getElem_map] at this
  exact(FD hP (hm _ hmm) hl hx).mpr this
theorem M3 {P K:Nat}{f:Int}{ms:List M5}(hP:0<P)(hm:∀m∈ms,MG (K:Int) m):(TT P (scF P f) ms K).length=(Sol P K ms.length λk j=>cfT f ((ms.map XU).getD k (0,0,0)) j % (P:Int)).length:=
 Nat.le_antisymm (Uc (VF K) λc h=>(BX hP hm c).mp h) (Uc IG λc h=>(BX hP hm c).mpr h)
theorem FQ {n K:Nat}(h24:n<=100)(hK:K<=3000):Jc (n:Int) (K:Int)= .ok ((n^K:Nat):Int):=by
 unfold Jc
 simp only[Rs.okb]
 rw[Zi (by omega)]
 simp only[Rs.okb]
 apply Ok.eq
 refine Ok.bind (Ok.forN (λi (g:Int)=>g=((n^i:Nat):Int)) rfl λi a g ha hg=>?_) λg hg=>?_
 ·subst hg
  rw[Z5 (by omega) (by omega),Rs.okb]
  refine⟨_,rfl,?_⟩
  rw[Nat.pow_succ]
  exact(Int.natCast_mul _ _).symm
 ·rw[YE] at hg
  exact⟨_,rfl,hg⟩
section
variable {P K N:Nat}{e:Nat->Nat->Int}{f:Int}
theorem IT (hP:0<P)(hPb:P<=100)(hK:K<=100)(he:∀k,k<N->Ran (P:Int) K (e k)){c:List Int}(hc:c.length=K):U1 ((List.range N).map λk=>Yx K (e k)) c (P:Int)= .ok (((List.range N).map λk=>Yx K (e k)).all λl=>decide (dot l c % (P:Int)=0)):=by
 unfold U1
 simp only[Rs.okb]
 rw[K7 (p:=λl=>!decide (dot l c % (P:Int)=0)) (v:=false) λl hl=>?_]
 ·rw[Rs.okb,List.all_eq_not_any_not]
  cases(((List.range N).map λk=>Yx K (e k)).any λl=>!decide (dot l c % (P:Int)=0))<;> rfl
 ·obtain⟨k,hk,rfl⟩:=List.mem_map.mp hl
  rw[MA (by rw[ZG];omega) (by rw[ZG];exact hc) λx hx=>?_,Xr,Rs.okb,Yg (by omega),Rs.okb,Rs.okb]
  ·cases(!decide (dot (Yx K (e k)) c % (P:Int)=0))<;> rfl
  ·obtain⟨j,hj,rfl⟩:=List.mem_map.mp hx
   have:=he k (List.mem_range.mp hk) j (List.mem_range.mp hj)
   omega
theorem Ha (hP:0<P)(hPb:P<=100)(hK:K<=100)(hp:P^K<=800)(he:∀k,k<N->Ran (P:Int) K (e k)):Ji ((List.range N).map λk=>Yx K (e k)) (K:Int) (P:Int)= .ok ((Sol P K N e).length:Int):=by
 unfold Ji
 simp only[Rs.okb]
 rw[XD (sz (by simp)),Rs.okb,Zi (by omega),Rs.okb]
 have loop:Ok (forN ((List.range K).map λ(i:Nat)=>(i:Int)) ([[]]:List (List Int)) λg9 _=>(forN g9 [] λg18 a20=>(Vu 0 (P:Int)).bind λx39=>(forN x39 g18 λg25 a27=>((chk ([a27].length<=sizeLine) (Rs.ok [a27])).bind λx30=>DL a20 x30).bind λa34=>chk (g25.length<sizeLine) (Rs.ok (g25++[a34]))).bind λg37=>Rs.ok g37).bind λg40=>Rs.ok g40) λT=>T=AV P K:=by
  refine Ok.imp (Ok.forN (λk (T:List (List Int))=>T=AV P k) rfl λk a T ha hT=>?_) λT hT=>by rw[YE] at hT;exact hT
  obtain⟨rfl,hk⟩:=YN ha
  subst hT
  have hb:(AV P k).length*P<=90000:=by
   rw[Dj, ←Nat.pow_succ]
   exact Nat.le_trans (BG hP (by omega)) (Nat.le_trans hp (by decide))
  rw[outer (n:=P) (f:=λ_ _=>0) (ms:=[]) hb λg c hc hg=>?_,Rs.okb]
  ·exact⟨_,rfl,rfl⟩
  ·have hcl:=(UK.mp hc).1
   rw[Zi (by omega),Rs.okb,ZU (h:=λj=>c++[j]) (sz (by simp;omega)) λg' hg' j _=>?_,Rs.okb,NR]
   rw[OC (by omega),Rs.okb,XD hg']
 obtain⟨T,eT,rfl⟩:=loop
 rw[eT,Rs.okb]
 have hlen:(AV P K).length<=800:=by rw[Dj];exact hp
 rw[JT (p:=λc=>((List.range N).map λk=>Yx K (e k)).all λl=>decide (dot l c % (P:Int)=0)) (h:=λc=>c) (sz (by omega)) (λc hc=>by rw[IT hP hPb hK he (UK.mp hc).1,Xr]) λ_ _ _=>rfl,Rs.okb,List.map_id']
 rfl
noncomputable def NL:Rs Int->Bool
 | .ok x=>decide (x=1)
 |_=>false
theorem EX {m:Rs Int}(h:NL m=true):m= .ok 1:=by
 cases m with
 |ok x=>exact congrArg Rs.ok (of_decide_eq_true h)
 |bad=>cases h
 |err x=>cases h
theorem CM {f:Int}(hp:P=2∨P=3∨P=5∨P=7∨P=11∨P=13∨P=23)(hf:¬f % (P:Int)=0):Yu f (P:Int)= .ok 1:=by
 unfold Yu
 simp only[Rs.okb]
 have hP:0<P:=by omega
 have r:=Jt (p:=(P:Int)) (by omega) f
 obtain⟨k,hk⟩:∃k:Nat,f % (P:Int)=(k:Int):=⟨(f % (P:Int)).toNat,by omega⟩
 rw[Yg (by omega),Rs.okb,hk]
 rw[hk] at r hf
 have hk1:0<k:=by omega
 have hk2:k<P:=by omega
 clear hk r hf
 have chkP:∀P∈[2,3,5,7,11,13,23],∀k,k<P->0<k->NL ((Qd (((P:Nat):Int).natAbs+2) (((P:Nat):Int),((k:Nat):Int)) (λg9=>Rs.ok !decide (g9.2=0)) λg9=>(Z2 g9.1 g9.2).bind λa13=>Rs.ok (g9.2,a13)).bind λg21=>Rs.ok g21.1)=true:=by decide+kernel
 exact EX (chkP P (by simp;omega) k hk2 hk1)
theorem BZ {f:Int}(hp:P=2∨P=3∨P=5∨P=7∨P=11∨P=13∨P=23)(hf:¬f % (P:Int)=0):QN (P:Int) f= .ok (Vq P (scF P f)):=by
 unfold QN
 simp only[Rs.okb]
 have hr:YT 24 (P:Int)= .ok ():=by
  unfold YT
  simp only[Rs.okb]
  rw[if_neg (by rw[decide_eq_true_eq];omega)]
 rw[hr,Xr,Rs.okb,CM hp hf,Xr,Rs.okb,Rs.okb,if_neg (by decide),Zi (by omega),Rs.okb]
 rw[YM (h:=λa:Int=>Fi P (scF P f) a.toNat) (sz (by simp;omega)) λa ha=>?_,List.map_map]
 ·rfl
 ·obtain⟨i,hi,rfl⟩:=ZT ha
  rw[Rs.okb,YM (h:=λb:Int=>((scF P f i b.toNat:Nat):Int)) (sz (by simp;omega)) λb hb=>?_,List.map_map]
  ·rw[Int.toNat_natCast];rfl
  ·obtain⟨j,hj,rfl⟩:=ZT hb
   rw[Z5 (by omega) (by omega),Rs.okb,Z5 (by omega) (by omega),Rs.okb,Rs.okb,Yg (by omega),Int.toNat_natCast]
   unfold scF
   have:=Jt (p:=(P:Int)) (by omega) (f*(i:Int)+(1-f)*(j:Int))
   rw[Int.toNat_of_nonneg this.1]
theorem Da {D:List (List Int)×List (Int×Int)}(d:DG D)(hA:XY D.1=(K:Int))(hK:K<=100)(hN:D.2.length<=100)(hp:P=2∨P=3∨P=5∨P=7∨P=11∨P=13∨P=23)(hpp:PP (P:Int))(hf:¬f % (P:Int)=0):QC D (P:Int) f= .ok true:=by
 have hP:1<P:=by omega
 obtain⟨ms,e1,e2,e3,e4⟩:=Dw d
 have hl:ms.length<=1000:=by omega
 have c2:P^K<=2500->Yv D (Vq P (scF P f))= .ok (TT P (scF P f) ms K):=λh=>MY d (by omega) (by omega) hA (by omega) (by omega) e1 hl e4
 rw[hA] at e4
 have hE:=HA (K:=K) (p:=(P:Int)) (f:=f) (L:=ms.map XU)
 rw[List.length_map] at hE
 have he:∀k,k<ms.length->Ran (P:Int) K (λj=>cfT f ((ms.map XU).getD k (0,0,0)) j % (P:Int)):=λk _ j _=>Jt (by omega) _
 obtain⟨ws,ts,hI,es⟩:=C5 (e:=λk j=>cfT f ((ms.map XU).getD k (0,0,0)) j % (P:Int)) d hA hK hpp hf e1 rfl (by omega) e4 hE he
 have hS:=Lr hI hP
 have hF:(frs K ts).length<=K:=by
  have:=List.length_filter_le (λj=>!(isT ts j)) (List.range K)
  rw[List.length_range] at this
  exact this
 have hfold:∀(l:List Int) (g:Int),l.foldl (λg _=>g*(P:Int)) g=g*((P^l.length:Nat):Int):=λl=>by
  induction l with
  |nil=>intro g;simp
  |cons a l ih=>
   intro g
   rw[List.foldl_cons,ih,List.length_cons,Nat.pow_succ,Nat.mul_comm,Int.natCast_mul,Int.mul_assoc]
 have hsm:YI D (P:Int) f= .ok ((P^(frs K ts).length:Nat):Int):=by
  unfold YI
  simp only[Rs.okb]
  rw[es,Xr,Rs.okb,Rs.okb,Bt (h:=λg _=>g*(P:Int)) λg a _=>by rw[Z5 (by omega) (by omega),Rs.okb],Rs.okb,hfold,List.length_map,Int.one_mul]
 have hcnt:Qk D= .ok (K:Int):=by rw[FZ d.short, ←d.count,hA]
 unfold QC
 simp only[Rs.okb]
 rw[BM d.few,Xr,Rs.okb,hsm,Xr,Rs.okb,es,Xr,Rs.okb,Rs.okb,decide_eq_true rfl,if_neg (by decide),List.length_map]
 rw[FQ (by omega) (by omega),Xr,Rs.okb,decide_eq_true rfl,show Qa ((P^(frs K ts).length:Nat):Int)= .ok true from rfl,Xr,Rs.okb,show orR (Rs.ok (!true)) (Rs.ok (!true))= .ok false from rfl,Rs.okb,if_neg (by decide)]
 rw[hcnt,Xr,Rs.okb,FQ (by omega) (by omega),Xr,Rs.okb,UB d hA (by omega) hpp e2 hl e4,Xr,Rs.okb,hE]
 have ht:IE (Rs.ok (decide (((P^K:Nat):Int)<=800))) ((noE (Ji ((List.range ms.length).map λk=>Yx K λj=>cfT f ((ms.map XU).getD k (0,0,0)) j % (P:Int)) (K:Int) (P:Int))).bind λx53=>Rs.ok !decide (((P^(frs K ts).length:Nat):Int)=x53))= .ok false:=by
  by_cases c:P^K<=800
  ·rw[Ha (e:=λk j=>cfT f ((ms.map XU).getD k (0,0,0)) j % (P:Int)) (by omega) (by omega) hK c he,Xr,Rs.okb,hS,decide_eq_true rfl]
   cases(decide (((P^K:Nat):Int)<=800))<;> rfl
  ·rw[decide_eq_false (by omega)];rfl
 rw[ht,Rs.okb,if_neg (by decide)]
 by_cases c:P^K<=2500
 ·rw[if_neg (by rw[decide_eq_true_eq];omega)]
  have:ZJ D (P:Int) f ((P^(frs K ts).length:Nat):Int)= .ok true:=by
   unfold ZJ
   simp only[Rs.okb]
   rw[BZ hp hf,Xr,Rs.okb,BM d.few,Xr]
   simp only[Rs.okb]
   have hmn:UP D (Vq P (scF P f))= .ok ((P^(frs K ts).length:Nat):Int):=by
    unfold UP
    simp only[Rs.okb]
    rw[c2 c,Xr,Rs.okb,M3 (by omega) e4,hS]
   rw[hmn,Xr,Rs.okb,decide_eq_true rfl,Rs.okb,if_neg (by decide),c2 c,Xr,Rs.okb,Fy (g:=()) λcol hcol=>?_,Rs.okb,Dq]
   have hk:=(BX (by omega) e4 col).mp hcol
   have hk2:=(List.mem_filter.mp hk).2
   rw[E7 d hA (by omega) hpp hf e1 hl e4,hE,hk2,Xr]
   rfl
  rw[this,Xr]
 ·rw[if_pos (decide_eq_true (by omega))]
end
theorem HQ (ns:List Int)(_:ns.length<=63):Fv ns= .ok true:=by
 refine Ok.eq ?_
 unfold Fv
 simp only[Rs.okb]
 obtain⟨D,eD,hD⟩:=Hv ns (p:=0) (by decide) (most:=6) (by decide)
 have eD:Js ns 0 6= .ok D:=eD
 have d:=DG.of hD (by decide)
 rw[eD,Xr,Rs.okb]
 obtain⟨K,hK⟩:∃K:Nat,XY D.1=(K:Int):=⟨(XY D.1).toNat,by have:=V2 D.1;omega⟩
 have hN:=hD.le
 have hK2:K<=100:=by
  have h1:=d.count
  have h3:=hD.few
  have h4:Vw D.1<=D.1.length:=Ia D.1
  omega
 rw[XD (sz (by simp)),Rs.okb]
 refine Ok.bind (Ok.noE (ID ns (p:=1) (by decide) _ (by simp) (by decide))) λr hr=>?_
 obtain⟨hl,hv⟩:=hr
 have hl':r.length=3:=hl
 have w0:=hv 0 r[0] 9 (List.getElem?_eq_getElem (by omega)) rfl
 have w1:=hv 1 r[1] 22 (List.getElem?_eq_getElem (by omega)) rfl
 have w2:=hv 2 r[2] 5 (List.getElem?_eq_getElem (by omega)) rfl
 have a0:atR r 0= .ok r[0]:=YA (i:=0) (List.getElem?_eq_getElem (by omega))
 have a1:atR r 1= .ok r[1]:=YA (i:=1) (List.getElem?_eq_getElem (by omega))
 have a2:atR r 2= .ok r[2]:=YA (i:=2) (List.getElem?_eq_getElem (by omega))
 rw[XD (sz (by simp)),Rs.okb,a0,Rs.okb]
 have hpr:∃P:Nat,atR [(2:Int),3,5,3,5,7,11,13,23] r[0]= .ok (P:Int)/\(P=2∨P=3∨P=5∨P=7∨P=11∨P=13∨P=23):=by
  have h5:r[0]=0∨r[0]=1∨r[0]=2∨r[0]=3∨r[0]=4∨r[0]=5∨r[0]=6∨r[0]=7∨r[0]=8:=by omega
  rcases h5 with z |z |z |z |z |z |z |z |z<;> rw[z]
  ·exact⟨2,rfl,by omega⟩
  ·exact⟨3,rfl,by omega⟩
  ·exact⟨5,rfl,by omega⟩
  ·exact⟨3,rfl,by omega⟩
  ·exact⟨5,rfl,by omega⟩
  ·exact⟨7,rfl,by omega⟩
  ·exact⟨11,rfl,by omega⟩
  ·exact⟨13,rfl,by omega⟩
  ·exact⟨23,rfl,by omega⟩
 obtain⟨P,eP,hP⟩:=hpr
 have hpp:PP (P:Int):=by
  rcases hP with rfl |rfl |rfl |rfl |rfl |rfl |rfl<;> exact⟨by decide,by decide,by decide+kernel⟩
 rw[eP,Rs.okb,a1,Rs.okb,Yg (by omega),Rs.okb,Rs.okb]
 have p50:∃z:Int,Lg 10 50= .ok z:=⟨_,Do (by decide) (by decide) (by decide) (by decide)⟩
 obtain⟨zz,ez⟩:=p50
 rw[ez]
 simp only[Rs.okb]
 rw[XD (sz (by simp)),Rs.okb,a2,Rs.okb]
 have hz:∃y:Int,atR [(0:Int),0,-3,1,zz] r[2]= .ok y:=by
  have h5:r[2]=0∨r[2]=1∨r[2]=2∨r[2]=3∨r[2]=4:=by omega
  rcases h5 with z |z |z |z |z<;> rw[z]<;> exact⟨_,rfl⟩
 obtain⟨y,ey⟩:=hz
 rw[ey,Rs.okb,YK (by omega) (by omega),Rs.okb]
 have hf:¬((1:Int)+r[1] % (max 1 ((P:Int)-1))+(P:Int)*y) % (P:Int)=0:=by
  rw[Int.add_mul_emod_self_left]
  have m0:=Int.emod_nonneg r[1] (show max 1 ((P:Int)-1)≠0 by omega)
  have m1:=Int.emod_lt_of_pos r[1] (show(0:Int)<max 1 ((P:Int)-1) by omega)
  rw[Int.emod_eq_of_lt (by omega) (by omega)]
  omega
 rw[Rs.okb,YM (h:=λe:Int×Int=>(e.1,-e.2)) (sz (by have:=d.le;omega)) λ_ _=>rfl,Rs.okb,Rs.okb]
 have k1:=Da d hK hK2 (by omega) hP hpp hf
 have k2:=Da (D:=(D.1,D.2.map λe=>(e.1,-e.2))) d.other hK hK2 (by show(D.2.map _).length<=100;rw[List.length_map];omega) hP hpp hf
 rw[k1,Xr,Rs.okb,Rs.okb,if_neg (by decide),k2,Xr,Rs.okb,Rs.okb,if_neg (by decide)]
 exact⟨_,rfl,rfl⟩
noncomputable def top (i:Nat):Stmt:=PySem.Challenge.pw_plait_k84_whole_number_told.main.body.getD i (.Pass ⟨0,0,0,0⟩)
noncomputable abbrev CQ:Stmt:=top 8
noncomputable abbrev Es:Stmt:=top 10
noncomputable abbrev Qp:Stmt:=top 11
noncomputable abbrev Zu:Stmt:=top 12
noncomputable abbrev Z6:Stmt:=top 13
noncomputable abbrev GQ:Stmt:=top 14
noncomputable abbrev Z8:Stmt:=top 17
noncomputable abbrev Bi:Stmt:=top 20
noncomputable abbrev QR:Stmt:=top 21
noncomputable abbrev ZX:Stmt:=top 22
noncomputable abbrev Zr:Stmt:=top 23
noncomputable abbrev ZO:Stmt:=top 24
noncomputable abbrev Ec:Stmt:=top 25
noncomputable abbrev Z3:Stmt:=top 28
noncomputable abbrev Vd:Stmt:=top 29
noncomputable abbrev Qq:Stmt:=top 30
noncomputable abbrev Kr:Stmt:=top 31
noncomputable abbrev VD:Stmt:=top 32
noncomputable abbrev QZ:Stmt:=top 33
noncomputable abbrev Zw:Stmt:=top 34
noncomputable abbrev CT:Stmt:=top 35
noncomputable abbrev ZL:Stmt:=top 36
noncomputable abbrev Km:Stmt:=top 37
noncomputable abbrev Ju:Stmt:=top 38
noncomputable abbrev Z7:Stmt:=top 39
noncomputable abbrev Z9:Stmt:=top 40
noncomputable abbrev ZV:Stmt:=top 41
noncomputable abbrev JG:Stmt:=top 43
noncomputable abbrev ZC:Stmt:=top 44
noncomputable abbrev Ei:Stmt:=top 46
noncomputable abbrev Mm:Stmt:=top 47
noncomputable abbrev Lo:Stmt:=top 48
noncomputable abbrev GV:Stmt:=top 49
noncomputable abbrev HM:Stmt:=top 50
noncomputable abbrev Uv:Stmt:=top 51
noncomputable abbrev Kh:Stmt:=top 52
noncomputable abbrev FR:Stmt:=top 53
noncomputable abbrev JW:Stmt:=top 54
noncomputable abbrev Kl:Stmt:=top 55
noncomputable abbrev U8:Stmt:=top 56
noncomputable abbrev Ui:Stmt:=top 57
noncomputable abbrev KD:Stmt:=top 58
noncomputable abbrev ZH:Stmt:=top 59
noncomputable abbrev Hk:Stmt:=top 60
noncomputable abbrev Eg:Stmt:=top 61
noncomputable abbrev Ks:Stmt:=top 62
noncomputable abbrev Fo:Stmt:=top 63
noncomputable abbrev JY:Stmt:=top 64
noncomputable abbrev GM:Stmt:=top 65
noncomputable abbrev UE:Stmt:=top 66
noncomputable def BE:Scope:={kind:=PySem.ScopeKind.function,names:=[(PySem.Str.ofString ".0",PySem.NameKind.local),(PySem.Str.ofString "a",PySem.NameKind.cell),(PySem.Str.ofString "range",PySem.NameKind.globalImplicit),(PySem.Str.ofString "factor",PySem.NameKind.free),(PySem.Str.ofString "size",PySem.NameKind.free)],isGenerator:=false,isCoroutine:=false,more:=[]:PySem.Scope}
structure Blt (mg:Str->Option Value):Prop where
 b_all:mg "all" =none
 b_bool:mg "bool" =none
 b_dict:mg "dict" =none
 b_enumerate:mg "enumerate" =none
 b_int:mg "int" =none
 b_isinstance:mg "isinstance" =none
 b_len:mg "len" =none
 b_list:mg "list" =none
 b_max:mg "max" =none
 b_min:mg "min" =none
 b_range:mg "range" =none
 b_sum:mg "sum" =none
 b_zip:mg "zip" =none
 c_MOST_COLOURS:∃u,mg "MOST_COLOURS" =some u/\Yo (.int 24) u
 c_MOST_LISTS:∃u,mg "MOST_LISTS" =some u/\Yo (.int 65536) u
 c_MOST_PRIME:∃u,mg "MOST_PRIME" =some u/\Yo (.int 100000) u
section
variable {P:Program}{w:World}{K:PySem.W.Frag}{mg:Str->Option Value}{base:Heap}
theorem GH:FnScope ["drawing","passage","at","walk"] ["drawing","passage"] (Xi CQ):=⟨rfl,rfl,rfl,by decide+kernel,rfl,by decide+kernel,by decide+kernel⟩
theorem IK (D:Def K mg "spot" CQ ["drawing","passage"])(Z:Blt mg):Fn P w K mg base 1 "spot" ["drawing","passage"] (sp2 (rP2 (rV (rV Xa)) (rV (rP2 Xa Xa))) Xa (oF (rP2 Xa Xa)) Uy K):=by
 refine Yf D GH (λvs H Q E h=>?_) (λf cdv A outer s H vs Q E hr h=>?_)
 ·obtain⟨v_0,v_1,a_0,a_1,b,rfl,_⟩:=h;rfl
 obtain⟨v_0,v_1,a_0,a_1,b,rfl,h_0,h_1,hm,q⟩:=h
 have hu:=hu8 hr
 have hu1:=Yb hr
 refine⟨_,(Xc (X6 PassesOwn.never rfl (BT rfl Z.b_enumerate (XJ (Y4 K rfl) (pv 0) Xh (λ_ _=>rfl))) (QA rfl (Xs (Xl (i:=2) GH.nd rfl (Or.inl rfl)) (Xs (Xl (i:=3) GH.nd rfl (Or.inl rfl)) Y6)))
   (Xc (Zb (XI Gv (pv 1) (pv 3) rfl)
    (Xc (XC (ZF (Xd (pv 2) (Xd (Ig (K:=K) rfl PySem.F.plainAttrs_list PySem.F.slot_list_index PySem.F.type_list_index (KW K rfl) (pv 3) (Xd (pv 1) Xe)) Xe))))
    Xf)
    Xf)
   Xf))
  (Xc QT
  Xf)),?_⟩
 refine Yk (S:=(SC.add (SC.add SC.nil K (rP2 (rV (rV Xa)) (rV (rP2 Xa Xa))) v_0 a_0) K Xa v_1 a_1)) (σ:=[some v_0,some v_1,none,none]) 0 ?_ (SC.i (SC.i SC.t h_0) h_1) hm q rfl
 unfold Uy
 exact(KG (K:=K) (J:=({oo:=λx3=>[],ss:=λx3=>[some v_0,some v_1,x3.1,x3.2],sc:=λg4 x3=>(SC.add (SC.add SC.nil K (rP2 (rV (rV Xa)) (rV (rP2 Xa Xa))) v_0 a_0) K Xa v_1 a_1)}:Jn (Unit) (Option V×Option V))) (λ_=>tg2 2 3) ((none),(none)) () (Gh (Vc (Xj (r:=(rP2 (rV (rV Xa)) (rV (rP2 Xa Xa)))) 0 rfl (λ_ s=>s.l.r)))) rfl rfl (λ_ s=>(SC.i (SC.i SC.t s.l.r) s.r)) (λg5 x6 a7 v8=>(VV (Xv (K:=K) (Ih (Xb (r:=Xa) 1 rfl (λ_ s=>s.l.l.r)) (Xb (r:=(rV Xa)) 3 rfl (λ_ s=>s.r)))) (XB (EvS.ev (QU (Xj (r:=Xa) 2 rfl (λ_ s=>s.l.r)) (EvB.sh (Gr (Xb (r:=(rV Xa)) 3 rfl (λ_ s=>s.r)) (Xb (r:=Xa) 1 rfl (λ_ s=>s.l.l.r))))))) (GC (Xu (J:=_) ((some v8.1),(some v8.2)) () rfl rfl (λ_ s=>(SC.i (SC.i SC.t s.l.l.l.r) s.l.l.r)))))) λg18 x19=>Is)
theorem QM:FnScope ["walk","unders"] ["walk"] (Xi Zu):=⟨rfl,rfl,rfl,by decide+kernel,rfl,by decide+kernel,by decide+kernel⟩
theorem VZ (D:Def K mg "arcs_of_walk" Zu ["walk"])(Z:Blt mg):Fn P w K mg base 1 "arcs_of_walk" ["walk"] (sp1 (rV Xa) (oF Xa) XS K):=by
 refine Yf D QM (λvs H Q E h=>?_) (λf cdv A outer s H vs Q E hr h=>?_)
 ·obtain⟨v_0,a_0,b,rfl,_⟩:=h;rfl
 obtain⟨v_0,a_0,b,rfl,h_0,hm,q⟩:=h
 have hu:=hu8 hr
 have hu1:=Yb hr
 refine⟨_,(Xc (J3 1 (Xi Zu) ["walk","unders"] ["passage"] [] rfl QM.nd rfl rfl (XG (K:=K) rfl (pv 0)) (YL (by decide)) (λcl C s H ex E=>⟨Xl (i:=0) (show List.Nodup (["passage"]:List Str) by decide+kernel) rfl (Or.inl rfl),(JU (XI Uo (pv 0) Xh (XW _))),(pv 0)⟩))
  (Xc (XC (Xy (JK rfl) rfl Z.b_max PyProof.Rows.boot_max (Xd (Xy (Xo K rfl) rfl Z.b_len PySem.boot_len (Xd (pv 1) Xe)) (Xd Xh Xe))))
  Xf)),?_⟩
 refine Yk (S:=(SC.add SC.nil K (rV Xa) v_0 a_0)) (σ:=[some v_0,none]) 0 ?_ (SC.i SC.t h_0) hm q rfl
 unfold XS
 exact(Xp (K:=K) (r:=(rV Xa)) 1 (Ev.sh (QS (λ_=>tg1 0) (Xt (Xj (r:=(rV Xa)) 0 rfl (λ_ s=>s.r))) (λC3 a4 v5=>(Xv (K:=K) (QJ (Xb (r:=Xa) 0 rfl (λ_ s=>s.r)) (Xg 0)))) (λC3 a4 v5=>(EvS.ev (Xj (r:=Xa) 0 rfl (λ_ s=>s.r)))))) λa1 v2=>(XB (EvS.ev (EvB.sh (Kv (Ym (Xb (r:=(rV Xa)) 1 rfl (λ_ s=>s.r))) (Xg 1))))))
theorem YH:FnScope ["walk","first","number","unders","ways","passage"] ["walk","first"] (Xi Z6):=⟨rfl,rfl,rfl,by decide+kernel,rfl,by decide+kernel,by decide+kernel⟩
theorem VO (D:Def K mg "arcs_of_ways" Z6 ["walk","first"])(g_arcs_of_walk:Fn P w K mg base 1 "arcs_of_walk" ["walk"] (sp1 (rV Xa) (oF Xa) XS K))(Z:Blt mg):Fn P w K mg base 2 "arcs_of_ways" ["walk","first"] (sp2 (rV Xa) Xa (oL (oF Xa)) YR K):=by
 refine Yf D YH (λvs H Q E h=>?_) (λf cdv A outer s H vs Q E hr h=>?_)
 ·obtain⟨v_0,v_1,a_0,a_1,b,rfl,_⟩:=h;rfl
 obtain⟨v_0,v_1,a_0,a_1,b,rfl,h_0,h_1,hm,q⟩:=h
 have hu:=hu8 hr
 have hu1:=Yb hr
 refine⟨_,(Xc (Xm (i:=2) YH.nd rfl (Or.inl rfl) (XN g_arcs_of_walk hr (by decide) (Xd (pv 0) Xe)))
  (Xc (Xm (i:=3) YH.nd rfl (Or.inl rfl) Xh)
  (Xc (Xm (i:=4) YH.nd rfl (Or.inl rfl) (X1 (Xd (pv 1) Xe)))
  (Xc (X6 PassesOwn.never rfl (XG (K:=K) rfl (Ke (Ku K rfl) (pv 0) Ff (G7 (Up QG Xh)))) (Xl (i:=5) YH.nd rfl (Or.inl rfl))
   (Xc (Zb (XI Uo (pv 5) Xh (XW _))
    (Xc (UM (i:=3) YH.nd rfl (Or.inl rfl) Xh Gm)
    Xf)
    Xf)
   (Xc (Yl (ZP PySem.F.plainAttrs_list PySem.F.slot_list_append PySem.F.type_list_append XX (pv 4) (Xd (Xq X9 (pv 1) (Xq Ya (pv 3) (pv 2))) Xe)))
   Xf)))
  (Xc (XC (pv 4))
  Xf))))),?_⟩
 refine Yk (S:=(SC.add (SC.add SC.nil K (rV Xa) v_0 a_0) K Xa v_1 a_1)) (σ:=[some v_0,some v_1,none,none,none,none]) 1 ?_ (SC.i (SC.i SC.t h_0) h_1) hm q rfl
 unfold YR
 exact(Xp (K:=K) (r:=Xa) 2 (EvB.sh (Ev.toB (X3 (Xb (r:=(rV Xa)) 0 rfl (λ_ s=>s.l.r))))) λa1 v2=>(Xp (K:=K) (r:=Xa) 3 (EvB.sh (Xg 0)) λa5 v6=>(XM (K:=K) (o:=(oL (oF Xa))) 4 0 (ZR (Xw (Xj (r:=Xa) 1 rfl (λ_ s=>s.l.l.r)) Zf)) (Nat.le_of_ble_eq_true rfl) λa7 v8 C9=>(Yr (K:=K) (J:=({oo:=λx18=>[x18.2.2.2],ss:=λx18=>[some v_0,some v_1,some v2,some x18.2.1,some x18.2.2.1,x18.1],sc:=λg19 x18=>(SC.addO (SC.add (SC.add (SC.add (SC.add SC.nil K (rV Xa) v_0 a_0) K Xa v_1 a_1) K Xa v2 a1) K Xa x18.2.1 g19.1) K (oL (oF Xa)) x18.2.2.1 g19.2 x18.2.2.2)}:Jn (Int×(List Int)) (Option V×V×V×List XH))) (λ_=>tg1 5) ((none),v6,v8,C9) (a5,a7) (Xt (Ev.sh (F0 (EvS.ls (Xj (r:=(rV Xa)) 0 rfl (λ_ s=>s.l.l.l.l.r))) Kf (Kt (K:=K) (ZS (Xg 1)))))) rfl rfl (λ_ s=>(SC.i (SC.i (SC.i (SC.i (SC.i SC.t s.l.l.l.l.r) s.l.l.l.r) s.l.l.r) s.l.r) s.r)) (λg20 x21 a22 v23=>(Zl (J:=({oo:=λx27=>[x21.2.2.2],ss:=λx27=>[some v_0,some v_1,some v2,some x27,some x21.2.2.1,some v23],sc:=λg28 x27=>(SC.add (SC.add (SC.addO (SC.add (SC.add (SC.add SC.nil K (rV Xa) v_0 a_0) K Xa v_1 a_1) K Xa v2 a1) K (oL (oF Xa)) x21.2.2.1 g20.2 x21.2.2.2) K Xa v23 a22) K Xa x27 g28)}:Jn (Int) (V))) (Z1 (Fd:=FNd ({oo:=λx27=>[x21.2.2.2],ss:=λx27=>[some v_0,some v_1,some v2,some x27,some x21.2.2.1,some v23],sc:=λg28 x27=>(SC.add (SC.add (SC.addO (SC.add (SC.add (SC.add SC.nil K (rV Xa) v_0 a_0) K Xa v_1 a_1) K Xa v2 a1) K (oL (oF Xa)) x21.2.2.1 g20.2 x21.2.2.2) K Xa v23 a22) K Xa x27 g28)}:Jn (Int) (V))) (Xv (K:=K) (QJ (Xb (r:=Xa) 5 rfl (λ_ s=>s.r)) (Xg 0))) (Ed (K:=K) (f:=λa31=>(Rs.ok (a31))) 3 rfl (λ_ s=>s.l.l.r) (Xg 1) λa31 v30=>(Xu (J:=_) (v30) (a31) rfl rfl (λ_ s=>(SC.i (SC.i (SC.i (SC.i (SC.i (SC.i SC.t s.l.l.l.l.l.l.r) s.l.l.l.l.l.r) s.l.l.l.l.r) s.l.l.r) s.l.r) s.r)))) (Xu (J:=_) (x21.2.1) (g20.1) rfl rfl (λ_ s=>(SC.i (SC.i (SC.i (SC.i (SC.i (SC.i SC.t s.l.l.l.l.l.r) s.l.l.l.l.r) s.l.l.l.r) s.l.r) s.r) s.l.l.r)))) λg33 x32=>(Zy (K:=K) (o:=(oF Xa)) (f:=λa40=>(Rs.ok (g33,a40))) 4 0 rfl rfl rfl (λ_ s=>s.l.l.r) (EvS.ev (EvB.sh (XQ (Xb (r:=Xa) 1 rfl (λ_ s=>s.l.l.l.l.r)) (XO (Xb (r:=Xa) 3 rfl (λ_ s=>s.r)) (Xb (r:=Xa) 2 rfl (λ_ s=>s.l.l.l.r)))))) λa38 C39=>(Xu (J:=_) ((some v23),x32,x21.2.2.1,C39) (g33,(g20.2++[a38])) rfl rfl (λ_ s=>(SC.i (SC.i (SC.i (SC.i (SC.i SC.t s.l.l.l.l.l.l.r) s.l.l.l.l.l.r) s.l.l.l.l.r) s.l.r) s.r)))))) λg41 x42=>(XB (Yd (o:=(oL (oF Xa))) 4 0 rfl rfl (λ_ s=>s.r)))))))
theorem Us:FnScope ["drawing","told","first","walk"] ["drawing"] (Xi Es):=⟨rfl,rfl,rfl,by decide+kernel,rfl,by decide+kernel,by decide+kernel⟩
theorem Lu (D:Def K mg "arcs" Es ["drawing"])(g_arcs_of_walk:Fn P w K mg base 1 "arcs_of_walk" ["walk"] (sp1 (rV Xa) (oF Xa) XS K))(g_arcs_of_ways:Fn P w K mg base 2 "arcs_of_ways" ["walk","first"] (sp2 (rV Xa) Xa (oL (oF Xa)) YR K))(Z:Blt mg):Fn P w K mg base 3 "arcs" ["drawing"] (sp1 (rP2 (rV (rV Xa)) (rV (rP2 Xa Xa))) (oL (oL (oF Xa))) U5 K):=by
 refine Yf D Us (λvs H Q E h=>?_) (λf cdv A outer s H vs Q E hr h=>?_)
 ·obtain⟨v_0,a_0,b,rfl,_⟩:=h;rfl
 obtain⟨v_0,a_0,b,rfl,h_0,hm,q⟩:=h
 have hu:=hu8 hr
 have hu1:=Yb hr
 refine⟨_,(Xc (Xm (i:=1) Us.nd rfl (Or.inl rfl) (X1 Xe))
  (Xc (Xm (i:=2) Us.nd rfl (Or.inl rfl) Xh)
  (Xc (X6 PassesOwn.never rfl (XG (K:=K) rfl (XJ (Y4 K rfl) (pv 0) Xh (λ_ _=>rfl))) (Xl (i:=3) Us.nd rfl (Or.inl rfl))
   (Xc (Yl (ZP PySem.F.plainAttrs_list PySem.F.slot_list_append PySem.F.type_list_append XX (pv 1) (Xd (XN g_arcs_of_ways hr (by decide) (Xd (pv 3) (Xd (pv 2) Xe))) Xe)))
   (Xc (UM (i:=2) Us.nd rfl (Or.inl rfl) (XN g_arcs_of_walk hr (by decide) (Xd (pv 3) Xe)) Gm)
   Xf)))
  (Xc (XC (pv 1))
  Xf)))),?_⟩
 refine Yk (S:=(SC.add SC.nil K (rP2 (rV (rV Xa)) (rV (rP2 Xa Xa))) v_0 a_0)) (σ:=[some v_0,none,none,none]) 1 ?_ (SC.i SC.t h_0) hm q rfl
 unfold U5
 exact(XM (K:=K) (o:=(oL (oL (oF Xa)))) 1 0 (Qt (o:=(oL (oF Xa)))) (Nat.le_of_ble_eq_true rfl) λa1 v2 C3=>(Xp (K:=K) (r:=Xa) 2 (EvB.sh (Xg 0)) λa4 v5=>(Yr (K:=K) (J:=({oo:=λx7=>[x7.2.2.2],ss:=λx7=>[some v_0,some x7.2.2.1,some x7.2.1,x7.1],sc:=λg8 x7=>(SC.addO (SC.add (SC.add SC.nil K (rP2 (rV (rV Xa)) (rV (rP2 Xa Xa))) v_0 a_0) K Xa x7.2.1 g8.1) K (oL (oL (oF Xa))) x7.2.2.1 g8.2 x7.2.2.2)}:Jn (Int×(List (List Int))) (Option V×V×V×List XH))) (λ_=>tg1 3) ((none),v5,v2,C3) (a4,a1) (Xt (Vc (Xj (r:=(rP2 (rV (rV Xa)) (rV (rP2 Xa Xa)))) 0 rfl (λ_ s=>s.l.l.r)))) rfl rfl (λ_ s=>(SC.i (SC.i (SC.i SC.t s.l.l.r) s.r) s.l.r)) (λg9 x10 a11 v12=>(Zy (K:=K) (o:=(oL (oF Xa))) (f:=λa18=>(Rs.bind (Rs.bind (Rs.ok a11) λx20=>(noE (XS x20))) λx21=>((λ(a23:Int)=>(Rs.ok (a23,a18))) (g9.1+x21)))) 1 0 rfl rfl rfl (λ_ s=>s.l.r) (XT (Xb (r:=(rV Xa)) 3 rfl (λ_ s=>s.r)) (Xb (r:=Xa) 2 rfl (λ_ s=>s.l.l.r))) λa16 C17=>(Ed (K:=K) (f:=λa23=>(Rs.ok (a23,(g9.2++[a16])))) 2 rfl (λ_ s=>s.l.l.l.r) (Ev.toB (X3 (Xb (r:=(rV Xa)) 3 rfl (λ_ s=>s.l.r)))) λa23 v22=>(Xu (J:=_) ((some v12),v22,x10.2.2.1,C17) (a23,(g9.2++[a16])) rfl rfl (λ_ s=>(SC.i (SC.i (SC.i SC.t s.l.l.l.l.l.r) s.r) s.l.r)))))) λg24 x25=>(XB (Yd (o:=(oL (oL (oF Xa)))) 1 0 rfl rfl (λ_ s=>s.r))))))
theorem Gi:FnScope ["drawing"] ["drawing"] (Xi Qp):=⟨rfl,rfl,rfl,by decide+kernel,rfl,by decide+kernel,by decide+kernel⟩
theorem Gj (D:Def K mg "arc_count" Qp ["drawing"])(g_arcs_of_walk:Fn P w K mg base 1 "arcs_of_walk" ["walk"] (sp1 (rV Xa) (oF Xa) XS K))(Z:Blt mg):Fn P w K mg base 2 "arc_count" ["drawing"] (sp1 (rP2 (rV (rV Xa)) (rV (rP2 Xa Xa))) (oF Xa) Yy K):=by
 refine Yf D Gi (λvs H Q E h=>?_) (λf cdv A outer s H vs Q E hr h=>?_)
 ·obtain⟨v_0,a_0,b,rfl,_⟩:=h;rfl
 obtain⟨v_0,a_0,b,rfl,h_0,hm,q⟩:=h
 have hu:=hu8 hr
 have hu1:=Yb hr
 refine⟨_,(Xc (XC (Xy (Ud rfl) rfl Z.b_sum PyProof.Rows.boot_sum (Xd (Yp (sc:=(Xi Qp)) (N0:=["drawing"]) (tns:=["walk"]) (caps:=[]) rfl (XG (K:=K) rfl (XJ (Y4 K rfl) (pv 0) Xh (λ_ _=>rfl))) (YL (by decide)) (λcl C s H ex E=>⟨Xl (i:=0) (show List.Nodup (["walk"]:List Str) by decide+kernel) rfl (Or.inl rfl),YD,(XN g_arcs_of_walk hr (by decide) (Xd (pv 0) Xe))⟩)) Xe)))
  Xf),?_⟩
 refine Yk (S:=(SC.add SC.nil K (rP2 (rV (rV Xa)) (rV (rP2 Xa Xa))) v_0 a_0)) (σ:=[some v_0]) 0 ?_ (SC.i SC.t h_0) hm q rfl
 unfold Yy
 exact(XB (EvS.ev (EvB.sh (Fj (Ev.toB (YC (λ_=>tg1 0) (Xt (Vc (Xj (r:=(rP2 (rV (rV Xa)) (rV (rP2 Xa Xa)))) 0 rfl (λ_ s=>s.r)))) (λC3 a4 v5=>(X3 (Xb (r:=(rV Xa)) 0 rfl (λ_ s=>s.r))))))))))
theorem Zk:FnScope ["drawing","numbers","told","crossing","sign","above","below","over","ways","inward","outward"] ["drawing"] (Xi GQ):=⟨rfl,rfl,rfl,by decide+kernel,rfl,by decide+kernel,by decide+kernel⟩
theorem Hq (D:Def K mg "meets" GQ ["drawing"])(g_arcs:Fn P w K mg base 3 "arcs" ["drawing"] (sp1 (rP2 (rV (rV Xa)) (rV (rP2 Xa Xa))) (oL (oL (oF Xa))) U5 K))(g_spot:Fn P w K mg base 1 "spot" ["drawing","passage"] (sp2 (rP2 (rV (rV Xa)) (rV (rP2 Xa Xa))) Xa (oF (rP2 Xa Xa)) Uy K))(Z:Blt mg):Fn P w K mg base 4 "meets" ["drawing"] (sp1 (rP2 (rV (rV Xa)) (rV (rP2 Xa Xa))) (oL (oF (rP5 Xa Xa Xa Xa Xa))) ZN K):=by
 refine Yf D Zk (λvs H Q E h=>?_) (λf cdv A outer s H vs Q E hr h=>?_)
 ·obtain⟨v_0,a_0,b,rfl,_⟩:=h;rfl
 obtain⟨v_0,a_0,b,rfl,h_0,hm,q⟩:=h
 have hu:=hu8 hr
 have hu1:=Yb hr
 refine⟨_,(Xc (Xm (i:=1) Zk.nd rfl (Or.inl rfl) (XN g_arcs hr (by decide) (Xd (pv 0) Xe)))
  (Xc (Xm (i:=2) Zk.nd rfl (Or.inl rfl) (X1 Xe))
  (Xc (X6 PassesOwn.never rfl (XG (K:=K) rfl (XJ (Y4 K rfl) (pv 0) Xh (λ_ _=>rfl))) (QA rfl (Xs (Xl (i:=3) Zk.nd rfl (Or.inl rfl)) (Xs (Xl (i:=4) Zk.nd rfl (Or.inl rfl)) Y6)))
   (Xc (Xm (i:=5) Zk.nd rfl (Or.inl rfl) (XN g_spot hr (by decide) (Xd (pv 0) (Xd (pv 3) Xe))))
   (Xc (Xm (i:=6) Zk.nd rfl (Or.inl rfl) (XN g_spot hr (by decide) (Xd (pv 0) (Xd (Up QG (pv 3)) Xe))))
   (Xc (Xm (i:=7) Zk.nd rfl (Or.inl rfl) (XJ (Xn K rfl) (XJ (Xn K rfl) (pv 1) (XJ (Y4 K rfl) (pv 5) Xh (λ_ _=>rfl)) (λ_ _=>rfl)) (XJ (Y4 K rfl) (pv 5) Xh (λ_ _=>rfl)) (λ_ _=>rfl)))
   (Xc (Xm (i:=8) Zk.nd rfl (Or.inl rfl) (XJ (Xn K rfl) (pv 1) (XJ (Y4 K rfl) (pv 6) Xh (λ_ _=>rfl)) (λ_ _=>rfl)))
   (Xc (Xm (i:=9) Zk.nd rfl (Or.inl rfl) (XJ (Xn K rfl) (pv 8) (XJ (Y4 K rfl) (pv 6) Xh (λ_ _=>rfl)) (λ_ _=>rfl)))
   (Xc (Xm (i:=10) Zk.nd rfl (Or.inl rfl) (XJ (Xn K rfl) (pv 8) (Xq Ya (Xq X9 (XJ (Y4 K rfl) (pv 6) Xh (λ_ _=>rfl)) Xh) (Xy (Xo K rfl) rfl Z.b_len PySem.boot_len (Xd (pv 8) Xe))) (λ_ _=>rfl)))
   (Xc (Yl (ZP PySem.F.plainAttrs_list PySem.F.slot_list_append PySem.F.type_list_append XX (pv 2) (Xd (ZF (Xd (pv 3) (Xd (pv 4) (Xd (pv 7) (Xd (pv 9) (Xd (pv 10) Xe)))))) Xe)))
   Xf))))))))
  (Xc (XC (pv 2))
  Xf)))),?_⟩
 refine Yk (S:=(SC.add SC.nil K (rP2 (rV (rV Xa)) (rV (rP2 Xa Xa))) v_0 a_0)) (σ:=[some v_0,none,none,none,none,none,none,none,none,none,none]) 1 ?_ (SC.i SC.t h_0) hm q rfl
 unfold ZN
 exact(Xp (K:=K) (r:=(rV (rV Xa))) 1 (Ev.sh (X3 (Xb (r:=(rP2 (rV (rV Xa)) (rV (rP2 Xa Xa)))) 0 rfl (λ_ s=>s.r)))) λa1 v2=>(XM (K:=K) (o:=(oL (oF (rP5 Xa Xa Xa Xa Xa)))) 2 0 (Qt (o:=(oF (rP5 Xa Xa Xa Xa Xa)))) (Nat.le_of_ble_eq_true rfl) λa5 v6 C7=>(Yr (K:=K) (J:=({oo:=λx9=>[x9.2.2.2.2.2.2.2.2.2],ss:=λx9=>[some v_0,some v2,some x9.2.2.2.2.2.2.2.2.1,x9.1,x9.2.1,x9.2.2.1,x9.2.2.2.1,x9.2.2.2.2.1,x9.2.2.2.2.2.1,x9.2.2.2.2.2.2.1,x9.2.2.2.2.2.2.2.1],sc:=λg10 x9=>(SC.addO (SC.add (SC.add SC.nil K (rP2 (rV (rV Xa)) (rV (rP2 Xa Xa))) v_0 a_0) K (rV (rV Xa)) v2 a1) K (oL (oF (rP5 Xa Xa Xa Xa Xa))) x9.2.2.2.2.2.2.2.2.1 g10 x9.2.2.2.2.2.2.2.2.2)}:Jn ((List (Int×Int×Int×Int×Int))) (Option V×Option V×Option V×Option V×Option V×Option V×Option V×Option V×V×List XH))) (λ_=>tg2 3 4) ((none),(none),(none),(none),(none),(none),(none),(none),v6,C7) (a5) (Xt (Bc (Xj (r:=(rP2 (rV (rV Xa)) (rV (rP2 Xa Xa)))) 0 rfl (λ_ s=>s.l.l.r)))) rfl rfl (λ_ s=>(SC.i (SC.i (SC.i SC.t s.l.l.r) s.l.r) s.r)) (λg11 x12 a13 v14=>(Xp (K:=K) (r:=(rP2 Xa Xa)) 5 (EvB.sh (Ev.toB (XT (Xb (r:=(rP2 (rV (rV Xa)) (rV (rP2 Xa Xa)))) 0 rfl (λ_ s=>s.l.l.l.l.r)) (Xb (r:=Xa) 3 rfl (λ_ s=>s.l.r))))) λa15 v16=>(Xp (K:=K) (r:=(rP2 Xa Xa)) 6 (EvB.sh (Ev.toB (XT (Xb (r:=(rP2 (rV (rV Xa)) (rV (rP2 Xa Xa)))) 0 rfl (λ_ s=>s.l.l.l.l.l.r)) (ZS (Xb (r:=Xa) 3 rfl (λ_ s=>s.l.l.r)))))) λa20 v21=>(Xp (K:=K) (r:=Xa) 7 (EvB.sh (XE (XE (Xb (r:=(rV (rV Xa))) 1 rfl (λ_ s=>s.l.l.l.l.l.r)) (Ex (Xb (r:=(rP2 Xa Xa)) 5 rfl (λ_ s=>s.l.r)))) (Uf (Xb (r:=(rP2 Xa Xa)) 5 rfl (λ_ s=>s.l.r))))) λa26 v27=>(Xp (K:=K) (r:=(rV Xa)) 8 (MP (EvS.ls (Xj (r:=(rV (rV Xa))) 1 rfl (λ_ s=>s.l.l.l.l.l.l.r))) (Ex (Xb (r:=(rP2 Xa Xa)) 6 rfl (λ_ s=>s.l.r)))) λa34 v35=>(Xp (K:=K) (r:=Xa) 9 (EvB.sh (XE (Xb (r:=(rV Xa)) 8 rfl (λ_ s=>s.r)) (Uf (Xb (r:=(rP2 Xa Xa)) 6 rfl (λ_ s=>s.l.l.r))))) λa39 v40=>(Xp (K:=K) (r:=Xa) 10 (EvB.sh (XE (Xb (r:=(rV Xa)) 8 rfl (λ_ s=>s.l.r)) (XO (XQ (Uf (Xb (r:=(rP2 Xa Xa)) 6 rfl (λ_ s=>s.l.l.l.r))) (Xg 1)) (Ym (Xb (r:=(rV Xa)) 8 rfl (λ_ s=>s.l.r)))))) λa44 v45=>(Zy (K:=K) (o:=(oF (rP5 Xa Xa Xa Xa Xa))) (f:=λa61=>(Rs.ok (a61))) 2 0 rfl rfl rfl (λ_ s=>s.l.l.l.l.l.l.l.l.r) (EvS.ev (Fz (Xj (r:=Xa) 3 rfl (λ_ s=>s.l.l.l.l.l.l.l.r)) (Xj (r:=Xa) 4 rfl (λ_ s=>s.l.l.l.l.l.l.r)) (Xj (r:=Xa) 7 rfl (λ_ s=>s.l.l.l.r)) (Xj (r:=Xa) 9 rfl (λ_ s=>s.l.r)) (Xj (r:=Xa) 10 rfl (λ_ s=>s.r)))) λa59 C60=>(Xu (J:=_) ((some v14.1),(some v14.2),(some v16),(some v21),(some v27),(some v35),(some v40),(some v45),x12.2.2.2.2.2.2.2.2.1,C60) ((g11++[a59])) rfl rfl (λ_ s=>(SC.i (SC.i (SC.i SC.t s.l.l.l.l.l.l.l.l.l.l.l.r) s.l.l.l.l.l.l.l.l.l.l.r) s.r))))))))))) λg62 x63=>(XB (Yd (o:=(oL (oF (rP5 Xa Xa Xa Xa Xa)))) 2 0 rfl rfl (λ_ s=>s.r))))))
theorem Um:FnScope ["most","size"] ["most","size"] (Xi Z8):=⟨rfl,rfl,rfl,by decide+kernel,rfl,by decide+kernel,by decide+kernel⟩
theorem VR (D:Def K mg "refuse_above" Z8 ["most","size"])(Z:Blt mg):Fn P w K mg base 1 "refuse_above" ["most","size"] (sp2 Xa Xa oU YT K):=by
 refine Yf D Um (λvs H Q E h=>?_) (λf cdv A outer s H vs Q E hr h=>?_)
 ·obtain⟨v_0,v_1,a_0,a_1,b,rfl,_⟩:=h;rfl
 obtain⟨v_0,v_1,a_0,a_1,b,rfl,h_0,h_1,hm,q⟩:=h
 have hu:=hu8 hr
 have hu1:=Yb hr
 refine⟨_,(Xc (Zb (XI K8 (pv 1) (pv 0) (XW _))
   (Xc QT
   Xf)
   Xf)
  Xf),?_⟩
 refine L7 (J:=({oo:=λx3=>[],ss:=λx3=>[some v_0,some v_1],sc:=λg4 x3=>(SC.add (SC.add SC.nil K Xa v_0 a_0) K Xa v_1 a_1)}:Jn (Unit) (Unit))) (K:=K) (S:=(SC.add (SC.add SC.nil K Xa v_0 a_0) K Xa v_1 a_1)) (σ:=[some v_0,some v_1]) 0 ?_ (SC.i (SC.i SC.t h_0) h_1) hm q (λ_ _=>rfl)
 unfold YT
 exact(FH (Xv (K:=K) (Vj (Xb (r:=Xa) 1 rfl (λ_ s=>s.r)) (Xb (r:=Xa) 0 rfl (λ_ s=>s.l.r)))) (Xu (J:=_) () () rfl rfl (λ_ s=>(SC.i (SC.i SC.t s.l.r) s.r))))
theorem Jq:FnScope ["drawing","told","crossing","sign","over","inward","outward"] ["drawing"] (Xi Bi):=⟨rfl,rfl,rfl,by decide+kernel,rfl,by decide+kernel,by decide+kernel⟩
theorem IN (D:Def K mg "ties" Bi ["drawing"])(g_meets:Fn P w K mg base 4 "meets" ["drawing"] (sp1 (rP2 (rV (rV Xa)) (rV (rP2 Xa Xa))) (oL (oF (rP5 Xa Xa Xa Xa Xa))) ZN K))(Z:Blt mg):Fn P w K mg base 5 "ties" ["drawing"] (sp1 (rP2 (rV (rV Xa)) (rV (rP2 Xa Xa))) (oL (oF (rP3 Xa Xa Xa))) Vh K):=by
 refine Yf D Jq (λvs H Q E h=>?_) (λf cdv A outer s H vs Q E hr h=>?_)
 ·obtain⟨v_0,a_0,b,rfl,_⟩:=h;rfl
 obtain⟨v_0,a_0,b,rfl,h_0,hm,q⟩:=h
 have hu:=hu8 hr
 have hu1:=Yb hr
 refine⟨_,(Xc (Xm (i:=1) Jq.nd rfl (Or.inl rfl) (X1 Xe))
  (Xc (X6 PassesOwn.never rfl (XG (K:=K) rfl (XN g_meets hr (by decide) (Xd (pv 0) Xe))) (QA rfl (Xs (Xl (i:=2) Jq.nd rfl (Or.inl rfl)) (Xs (Xl (i:=3) Jq.nd rfl (Or.inl rfl)) (Xs (Xl (i:=4) Jq.nd rfl (Or.inl rfl)) (Xs (Xl (i:=5) Jq.nd rfl (Or.inl rfl)) (Xs (Xl (i:=6) Jq.nd rfl (Or.inl rfl)) Y6))))))
   (Xc (Yl (ZP PySem.F.plainAttrs_list PySem.F.slot_list_append PySem.F.type_list_append XX (pv 1) (Xd (Hl (XI UH (pv 3) Xh (XW _)) (ZF (Xd (pv 5) (Xd (pv 4) (Xd (pv 6) Xe)))) (ZF (Xd (pv 6) (Xd (pv 4) (Xd (pv 5) Xe))))) Xe)))
   Xf))
  (Xc (XC (pv 1))
  Xf))),?_⟩
 refine Yk (S:=(SC.add SC.nil K (rP2 (rV (rV Xa)) (rV (rP2 Xa Xa))) v_0 a_0)) (σ:=[some v_0,none,none,none,none,none,none]) 1 ?_ (SC.i SC.t h_0) hm q rfl
 unfold Vh
 exact(XM (K:=K) (o:=(oL (oF (rP3 Xa Xa Xa)))) 1 0 (Qt (o:=(oF (rP3 Xa Xa Xa)))) (Nat.le_of_ble_eq_true rfl) λa1 v2 C3=>(Yr (K:=K) (J:=({oo:=λx6=>[x6.2.2.2.2.2.2],ss:=λx6=>[some v_0,some x6.2.2.2.2.2.1,x6.1,x6.2.1,x6.2.2.1,x6.2.2.2.1,x6.2.2.2.2.1],sc:=λg7 x6=>(SC.addO (SC.add SC.nil K (rP2 (rV (rV Xa)) (rV (rP2 Xa Xa))) v_0 a_0) K (oL (oF (rP3 Xa Xa Xa))) x6.2.2.2.2.2.1 g7 x6.2.2.2.2.2.2)}:Jn ((List (Int×Int×Int))) (Option V×Option V×Option V×Option V×Option V×V×List XH))) (λ_=>tg5 2 3 4 5 6) ((none),(none),(none),(none),(none),v2,C3) (a1) (Xt (Ev.sh (X3 (Xb (r:=(rP2 (rV (rV Xa)) (rV (rP2 Xa Xa)))) 0 rfl (λ_ s=>s.l.r))))) rfl rfl (λ_ s=>(SC.i (SC.i SC.t s.l.r) s.r)) (λg8 x9 a10 v11=>(Zy (K:=K) (o:=(oF (rP3 Xa Xa Xa))) (f:=λa23=>(Rs.ok (a23))) 1 0 rfl rfl rfl (λ_ s=>s.l.l.l.l.l.r) (Op (Xv (K:=K) (Q5 (Xb (r:=Xa) 3 rfl (λ_ s=>s.l.l.l.r)) (Xg 1))) (EvS.ev (FW (Xj (r:=Xa) 5 rfl (λ_ s=>s.l.r)) (Xj (r:=Xa) 4 rfl (λ_ s=>s.l.l.r)) (Xj (r:=Xa) 6 rfl (λ_ s=>s.r)))) (EvS.ev (FW (Xj (r:=Xa) 6 rfl (λ_ s=>s.r)) (Xj (r:=Xa) 4 rfl (λ_ s=>s.l.l.r)) (Xj (r:=Xa) 5 rfl (λ_ s=>s.l.r))))) λa21 C22=>(Xu (J:=_) ((some v11.1),(some v11.2.1),(some v11.2.2.1),(some v11.2.2.2.1),(some v11.2.2.2.2),x9.2.2.2.2.2.1,C22) ((g8++[a21])) rfl rfl (λ_ s=>(SC.i (SC.i SC.t s.l.l.l.l.l.l.l.r) s.r))))) λg24 x25=>(XB (Yd (o:=(oL (oF (rP3 Xa Xa Xa)))) 1 0 rfl rfl (λ_ s=>s.r)))))
theorem G4:FnScope ["table","colours","asked"] ["table","colours","asked"] (Xi QR):=⟨rfl,rfl,rfl,by decide+kernel,rfl,by decide+kernel,by decide+kernel⟩
theorem GS (D:Def K mg "all_held" QR ["table","colours","asked"])(Z:Blt mg):Fn P w K mg base 1 "all_held" ["table","colours","asked"] (sp3 (rV (rV Xa)) (rV Xa) (rV (rP3 Xa Xa Xa)) (oF X0) ZI K):=by
 refine Yf D G4 (λvs H Q E h=>?_) (λf cdv A outer s H vs Q E hr h=>?_)
 ·obtain⟨v_0,v_1,v_2,a_0,a_1,a_2,b,rfl,_⟩:=h;rfl
 obtain⟨v_0,v_1,v_2,a_0,a_1,a_2,b,rfl,h_0,h_1,h_2,hm,q⟩:=h
 have hu:=hu8 hr
 have hu1:=Yb hr
 refine⟨_,(Xc (XC (Xy (Gd rfl) rfl Z.b_all PyProof.Rows.boot_all (Xd (Yp (sc:=(Xi QR)) (N0:=["table","colours","asked"]) (tns:=["start","over","end"]) (caps:=[(0,"table"),(1,"colours")]) rfl (XG (K:=K) rfl (pv 2)) (I9 (by decide) (by decide) (by decide)) (λcl C s H ex E=>⟨Jd K rfl rfl (Xs (Xl (i:=0) (show List.Nodup (["start","over","end","table","colours"]:List Str) by decide+kernel) rfl (Or.inl rfl)) (Xs (Xl (i:=1) (show List.Nodup (["start","over","end","table","colours"]:List Str) by decide+kernel) rfl (Or.inl rfl)) (Xs (Xl (i:=2) (show List.Nodup (["start","over","end","table","colours"]:List Str) by decide+kernel) rfl (Or.inl rfl)) Y6))),YD,(Bv UH (XJ (Xn K rfl) (XJ (Xn K rfl) (pv 3) (XJ (Xn K rfl) (pv 4) (pv 0) (λ_ _=>rfl)) (λ_ _=>rfl)) (XJ (Xn K rfl) (pv 4) (pv 1) (λ_ _=>rfl)) (λ_ _=>rfl)) (XJ (Xn K rfl) (pv 4) (pv 2) (λ_ _=>rfl)) (XW _))⟩)) Xe)))
  Xf),?_⟩
 refine Yk (S:=(SC.add (SC.add (SC.add SC.nil K (rV (rV Xa)) v_0 a_0) K (rV Xa) v_1 a_1) K (rV (rP3 Xa Xa Xa)) v_2 a_2)) (σ:=[some v_0,some v_1,some v_2]) 0 ?_ (SC.i (SC.i (SC.i SC.t h_0) h_1) h_2) hm q rfl
 unfold ZI
 exact(XB (EvS.ev (EvB.sh (C6 (Ev.toB (YC (λ_=>tg3 0 1 2) (Xt (Xj (r:=(rV (rP3 Xa Xa Xa))) 2 rfl (λ_ s=>s.r))) (λC2 a3 v4=>(EvS.ev (EvB.sh (Q5 (XE (XE (Xb (r:=(rV (rV Xa))) 3 rfl (λ_ s=>s.l.l.l.l.l.r)) (XE (Xb (r:=(rV Xa)) 4 rfl (λ_ s=>s.l.l.l.l.r)) (Xb (r:=Xa) 0 rfl (λ_ s=>s.l.l.r)))) (XE (Xb (r:=(rV Xa)) 4 rfl (λ_ s=>s.l.l.l.l.r)) (Xb (r:=Xa) 1 rfl (λ_ s=>s.l.r)))) (XE (Xb (r:=(rV Xa)) 4 rfl (λ_ s=>s.l.l.l.l.r)) (Xb (r:=Xa) 2 rfl (λ_ s=>s.r)))))))))))))
theorem YX:FnScope ["size","count","lists","arc"] ["size","count"] (Xi Zr):=⟨rfl,rfl,rfl,by decide+kernel,rfl,by decide+kernel,by decide+kernel⟩
theorem Jw (D:Def K mg "refuse_too_much" Zr ["size","count"])(Z:Blt mg):Fn P w K mg base 1 "refuse_too_much" ["size","count"] (sp2 Xa Xa oU Yi K):=by
 refine Yf D YX (λvs H Q E h=>?_) (λf cdv A outer s H vs Q E hr h=>?_)
 ·obtain⟨v_0,v_1,a_0,a_1,b,rfl,_⟩:=h;rfl
 obtain⟨v_0,v_1,a_0,a_1,b,rfl,h_0,h_1,hm,q⟩:=h
 have hu:=hu8 hr
 have hu1:=Yb hr
 refine⟨_,(Xc (Xm (i:=2) YX.nd rfl (Or.inl rfl) Xh)
  (Xc (X6 PassesOwn.never rfl (XR rfl Z.b_range (Xd (pv 1) Xe)) (Xl (i:=3) YX.nd rfl (Or.inl rfl))
   (Xc (UM (i:=2) YX.nd rfl (Or.inl rfl) (pv 0) IB)
   Xf))
  (Xc (Zb (XI K8 (pv 2) (EJ Z.c_MOST_LISTS rfl) (XW _))
   (Xc QT
   Xf)
   Xf)
  Xf))),?_⟩
 refine L7 (J:=({oo:=λx3=>[],ss:=λx3=>[some v_0,some v_1,x3.1,x3.2],sc:=λg4 x3=>(SC.add (SC.add SC.nil K Xa v_0 a_0) K Xa v_1 a_1)}:Jn (Unit) (Option V×Option V))) (K:=K) (S:=(SC.add (SC.add SC.nil K Xa v_0 a_0) K Xa v_1 a_1)) (σ:=[some v_0,some v_1,none,none]) 0 ?_ (SC.i (SC.i SC.t h_0) h_1) hm q (λ_ _=>rfl)
 unfold Yi
 exact(Xp (K:=K) (r:=Xa) 2 (EvB.sh (Xg 1)) λa5 v6=>(Yr (K:=K) (J:=({oo:=λx8=>[],ss:=λx8=>[some v_0,some v_1,some x8.2,x8.1],sc:=λg9 x8=>(SC.add (SC.add (SC.add SC.nil K Xa v_0 a_0) K Xa v_1 a_1) K Xa x8.2 g9)}:Jn (Int) (Option V×V))) (λ_=>tg1 3) ((none),v6) (a5) (XF (Xb (r:=Xa) 1 rfl (λ_ s=>s.l.r))) rfl rfl (λ_ s=>(SC.i (SC.i (SC.i SC.t s.l.l.r) s.l.r) s.r)) (λg10 x11 a12 v13=>(CZ (K:=K) 2 rfl (λ_ s=>s.l.r) (Xb (r:=Xa) 0 rfl (λ_ s=>s.l.l.l.r)) λa16 v15=>(Xu (J:=_) ((some v13),v15) (a16) rfl rfl (λ_ s=>(SC.i (SC.i (SC.i SC.t s.l.l.l.l.r) s.l.l.l.r) s.r))))) λg17 x18=>(FH (Xv (K:=K) (Vj (Xb (r:=Xa) 2 rfl (λ_ s=>s.r)) (Xg 65536))) (Xu (J:=_) ((some x18.2),(x18.1)) () rfl rfl (λ_ s=>(SC.i (SC.i SC.t s.l.l.r) s.l.r))))))
theorem YO:FnScope ["lists","table","asked","longer","ahead","colour","tried"] ["lists","table","asked"] (Xi ZO):=⟨rfl,rfl,rfl,by decide+kernel,rfl,by decide+kernel,by decide+kernel⟩
theorem Vs (D:Def K mg "longer_by_arc" ZO ["lists","table","asked"])(g_all_held:Fn P w K mg base 1 "all_held" ["table","colours","asked"] (sp3 (rV (rV Xa)) (rV Xa) (rV (rP3 Xa Xa Xa)) (oF X0) ZI K))(Z:Blt mg):Fn P w K mg base 2 "longer_by_arc" ["lists","table","asked"] (sp3 (rV (rV Xa)) (rV (rV Xa)) (rV (rP3 Xa Xa Xa)) (oL (oL (oF Xa))) YG K):=by
 refine Yf D YO (λvs H Q E h=>?_) (λf cdv A outer s H vs Q E hr h=>?_)
 ·obtain⟨v_0,v_1,v_2,a_0,a_1,a_2,b,rfl,_⟩:=h;rfl
 obtain⟨v_0,v_1,v_2,a_0,a_1,a_2,b,rfl,h_0,h_1,h_2,hm,q⟩:=h
 have hu:=hu8 hr
 have hu1:=Yb hr
 refine⟨_,(Xc (Xm (i:=3) YO.nd rfl (Or.inl rfl) (X1 Xe))
  (Xc (X6 PassesOwn.never rfl (XG (K:=K) rfl (pv 0)) (Xl (i:=4) YO.nd rfl (Or.inl rfl))
   (Xc (X6 PassesOwn.never rfl (XR rfl Z.b_range (Xd (Xy (Xo K rfl) rfl Z.b_len PySem.boot_len (Xd (pv 1) Xe)) Xe)) (Xl (i:=5) YO.nd rfl (Or.inl rfl))
    (Xc (Xm (i:=6) YO.nd rfl (Or.inl rfl) (Xq KM (pv 4) (X1 (Xd (pv 5) Xe))))
    (Xc (Zb (Ve (XN g_all_held hr (by decide) (Xd (pv 1) (Xd (pv 6) (Xd (pv 2) Xe)))))
     (Xc (Yl (ZP PySem.F.plainAttrs_list PySem.F.slot_list_append PySem.F.type_list_append XX (pv 3) (Xd (pv 6) Xe)))
     Xf)
     Xf)
    Xf)))
   Xf))
  (Xc (XC (pv 3))
  Xf))),?_⟩
 refine Yk (S:=(SC.add (SC.add (SC.add SC.nil K (rV (rV Xa)) v_0 a_0) K (rV (rV Xa)) v_1 a_1) K (rV (rP3 Xa Xa Xa)) v_2 a_2)) (σ:=[some v_0,some v_1,some v_2,none,none,none,none]) 2 ?_ (SC.i (SC.i (SC.i SC.t h_0) h_1) h_2) hm q rfl
 unfold YG
 exact(XM (K:=K) (o:=(oL (oL (oF Xa)))) 3 0 (Qt (o:=(oL (oF Xa)))) (Nat.le_of_ble_eq_true rfl) λa1 v2 C3=>(Yr (K:=K) (J:=({oo:=λx4=>[x4.2.2.2.2,[]],ss:=λx4=>[some v_0,some v_1,some v_2,some x4.2.2.2.1,x4.1,x4.2.1,x4.2.2.1],sc:=λg5 x4=>(SC.addO (SC.add (SC.add (SC.add SC.nil K (rV (rV Xa)) v_0 a_0) K (rV (rV Xa)) v_1 a_1) K (rV (rP3 Xa Xa Xa)) v_2 a_2) K (oL (oL (oF Xa))) x4.2.2.2.1 g5 x4.2.2.2.2)}:Jn ((List (List Int))) (Option V×Option V×Option V×V×List XH))) (λ_=>tg1 4) ((none),(none),(none),v2,C3) (a1) (Xt (Xj (r:=(rV (rV Xa))) 0 rfl (λ_ s=>s.l.l.l.r))) rfl rfl (λ_ s=>(SC.i (SC.i (SC.i (SC.i SC.t s.l.l.l.r) s.l.l.r) s.l.r) s.r)) (λg6 x7 a8 v9=>(Yr (K:=K) (J:=({oo:=λx12=>[x12.2.2.2,[]],ss:=λx12=>[some v_0,some v_1,some v_2,some x12.2.2.1,some v9,x12.1,x12.2.1],sc:=λg13 x12=>(SC.addO (SC.add (SC.add (SC.add (SC.add SC.nil K (rV (rV Xa)) v_0 a_0) K (rV (rV Xa)) v_1 a_1) K (rV (rP3 Xa Xa Xa)) v_2 a_2) K (rV Xa) v9 a8) K (oL (oL (oF Xa))) x12.2.2.1 g13 x12.2.2.2)}:Jn ((List (List Int))) (Option V×Option V×V×List XH))) (λ_=>tg1 5) ((x7.2.1),(x7.2.2.1),x7.2.2.2.1,x7.2.2.2.2) (g6) (XF (Ym (Xb (r:=(rV (rV Xa))) 1 rfl (λ_ s=>s.l.l.l.r)))) rfl rfl (λ_ s=>(SC.i (SC.i (SC.i (SC.i (SC.i SC.t s.l.l.l.l.r) s.l.l.l.r) s.l.l.r) s.r) s.l.r)) (λg14 x15 a16 v17=>(XM (K:=K) (o:=(oL (oF Xa))) 6 1 (Dm (EvS.ls (Xj (r:=(rV Xa)) 4 rfl (λ_ s=>s.l.l.r))) (Ev.ls (ZR (Xw (Xj (r:=Xa) 5 rfl (λ_ s=>s.r)) Zf)))) (Nat.le_of_ble_eq_true rfl) λa18 v19 C20=>(Zl (J:=({oo:=λx31=>[x31.2.2,[]],ss:=λx31=>[some v_0,some v_1,some v_2,some x31.1,some v9,some v17,x31.2.1],sc:=λg32 x31=>(SC.addO (SC.add (SC.add (SC.add (SC.add (SC.add SC.nil K (rV (rV Xa)) v_0 a_0) K (rV (rV Xa)) v_1 a_1) K (rV (rP3 Xa Xa Xa)) v_2 a_2) K (rV Xa) v9 a8) K Xa v17 a16) K (oL (oL (oF Xa))) x31.1 g32 x31.2.2)}:Jn ((List (List Int))) (V×Option V×List XH))) (Z1 (Fd:=FNd ({oo:=λx31=>[x31.2.2,[]],ss:=λx31=>[some v_0,some v_1,some v_2,some x31.1,some v9,some v17,x31.2.1],sc:=λg32 x31=>(SC.addO (SC.add (SC.add (SC.add (SC.add (SC.add SC.nil K (rV (rV Xa)) v_0 a_0) K (rV (rV Xa)) v_1 a_1) K (rV (rP3 Xa Xa Xa)) v_2 a_2) K (rV Xa) v9 a8) K Xa v17 a16) K (oL (oL (oF Xa))) x31.1 g32 x31.2.2)}:Jn ((List (List Int))) (V×Option V×List XH))) (UD (K:=K) (Ev.toB (Yc (Xb (r:=(rV (rV Xa))) 1 rfl (λ_ s=>s.l.l.l.l.l.r)) (YY (o:=(oL (oF Xa))) 6 1 rfl rfl (λ_ s=>s.r)) (Xb (r:=(rV (rP3 Xa Xa Xa))) 2 rfl (λ_ s=>s.l.l.l.l.r))))) (Zy (K:=K) (o:=(oL (oF Xa))) (f:=λa35=>(Rs.ok (a35))) 3 0 rfl rfl rfl (λ_ s=>s.l.l.r) (Yd (o:=(oL (oF Xa))) 6 1 rfl rfl (λ_ s=>s.r)) λa33 C34=>(Xu (J:=_) (x15.2.2.1,(some v19),C34) ((g14++[a33])) rfl rfl (λ_ s=>(SC.i (SC.i (SC.i (SC.i (SC.i (SC.i SC.t s.l.l.l.l.l.l.l.r) s.l.l.l.l.l.l.r) s.l.l.l.l.l.r) s.l.l.l.l.r) s.l.l.r) s.r)))) (GJ 1 (Xu (J:=_) (x15.2.2.1,(some v19),x15.2.2.2) (g14) rfl rfl (λ_ s=>(SC.i (SC.i (SC.i (SC.i (SC.i (SC.i SC.t s.l.l.l.l.l.l.r) s.l.l.l.l.l.r) s.l.l.l.l.r) s.l.l.l.r) s.l.r) s.l.l.r))))) λg37 x36=>(Xu (J:=_) ((some v17),(x36.2.1),x36.1,x36.2.2) (g37) rfl rfl (λ_ s=>(SC.i (SC.i (SC.i (SC.i (SC.i SC.t s.l.l.l.l.l.r) s.l.l.l.l.r) s.l.l.l.r) s.l.l.r) s.r)))))) λg38 x39=>(Xu (J:=_) ((some v9),(x39.1),(x39.2.1),x39.2.2.1,x39.2.2.2) (g38) rfl rfl (λ_ s=>(SC.i (SC.i (SC.i (SC.i SC.t s.l.l.l.l.r) s.l.l.l.r) s.l.l.r) s.r))))) λg41 x42=>(XB (Yd (o:=(oL (oL (oF Xa)))) 3 0 rfl rfl (λ_ s=>s.r)))))
theorem Y8:FnScope ["drawing","table","count","asked","told","arc"] ["drawing","table"] (Xi ZX):=⟨rfl,rfl,rfl,by decide+kernel,rfl,by decide+kernel,by decide+kernel⟩
theorem Kg (D:Def K mg "colourings" ZX ["drawing","table"])(g_arc_count:Fn P w K mg base 2 "arc_count" ["drawing"] (sp1 (rP2 (rV (rV Xa)) (rV (rP2 Xa Xa))) (oF Xa) Yy K))(g_refuse_too_much:Fn P w K mg base 1 "refuse_too_much" ["size","count"] (sp2 Xa Xa oU Yi K))(g_ties:Fn P w K mg base 5 "ties" ["drawing"] (sp1 (rP2 (rV (rV Xa)) (rV (rP2 Xa Xa))) (oL (oF (rP3 Xa Xa Xa))) Vh K))(g_longer_by_arc:Fn P w K mg base 2 "longer_by_arc" ["lists","table","asked"] (sp3 (rV (rV Xa)) (rV (rV Xa)) (rV (rP3 Xa Xa Xa)) (oL (oL (oF Xa))) YG K))(Z:Blt mg):Fn P w K mg base 6 "colourings" ["drawing","table"] (sp2 (rP2 (rV (rV Xa)) (rV (rP2 Xa Xa))) (rV (rV Xa)) (oL (oL (oF Xa))) Yv K):=by
 refine Yf D Y8 (λvs H Q E h=>?_) (λf cdv A outer s H vs Q E hr h=>?_)
 ·obtain⟨v_0,v_1,a_0,a_1,b,rfl,_⟩:=h;rfl
 obtain⟨v_0,v_1,a_0,a_1,b,rfl,h_0,h_1,hm,q⟩:=h
 have hu:=hu8 hr
 have hu1:=Yb hr
 refine⟨_,(Xc (Xm (i:=2) Y8.nd rfl (Or.inl rfl) (XN g_arc_count hr (by decide) (Xd (pv 0) Xe)))
  (Xc (Yl (XN g_refuse_too_much hr (by decide) (Xd (Xy (Xo K rfl) rfl Z.b_len PySem.boot_len (Xd (pv 1) Xe)) (Xd (pv 2) Xe))))
  (Xc (Xm (i:=3) Y8.nd rfl (Or.inl rfl) (XN g_ties hr (by decide) (Xd (pv 0) Xe)))
  (Xc (Xm (i:=4) Y8.nd rfl (Or.inl rfl) (X1 (Xd (X1 Xe) Xe Jx)))
  (Xc (X6 PassesOwn.never rfl (XR rfl Z.b_range (Xd (pv 2) Xe)) (Xl (i:=5) Y8.nd rfl (Or.inr rfl))
   (Xc (Xm (i:=4) Y8.nd rfl (Or.inl rfl) (XN g_longer_by_arc hr (by decide) (Xd (pv 4) (Xd (pv 1) (Xd (Yp (sc:=(Xi ZX)) (N0:=["drawing","table","count","asked","told","arc"]) (tns:=["tie"]) (caps:=[(5,"arc")]) rfl (XG (K:=K) rfl (pv 3)) (YL (by decide)) (λcl C s H ex E=>⟨Xl (i:=0) (show List.Nodup (["tie","arc"]:List Str) by decide+kernel) rfl (Or.inl rfl),(JU (XI UH (Xy (Bz K rfl rfl) rfl Z.b_max PyProof.Rows.boot_max (Xd (pv 0) Xe)) (pv 1) (XW _))),(pv 0)⟩)) Xe)))))
   Xf))
  (Xc (XC (pv 4))
  Xf)))))),?_⟩
 refine Yk (S:=(SC.add (SC.add SC.nil K (rP2 (rV (rV Xa)) (rV (rP2 Xa Xa))) v_0 a_0) K (rV (rV Xa)) v_1 a_1)) (σ:=[some v_0,some v_1,none,none,none,none]) 1 ?_ (SC.i (SC.i SC.t h_0) h_1) hm q rfl
 unfold Yv
 exact(Xp (K:=K) (r:=Xa) 2 (EvB.sh (Ev.toB (X3 (Xb (r:=(rP2 (rV (rV Xa)) (rV (rP2 Xa Xa)))) 0 rfl (λ_ s=>s.l.r))))) λa1 v2=>(GN (Ev.toB (XT (Ym (Xb (r:=(rV (rV Xa))) 1 rfl (λ_ s=>s.l.r))) (Xb (r:=Xa) 2 rfl (λ_ s=>s.r)))) (Xp (K:=K) (r:=(rV (rP3 Xa Xa Xa))) 3 (Ev.sh (X3 (Xb (r:=(rP2 (rV (rV Xa)) (rV (rP2 Xa Xa)))) 0 rfl (λ_ s=>s.l.l.r)))) λa10 v11=>(XM (K:=K) (o:=(oL (oL (oF Xa)))) 4 0 (Ez (Uj (Qt (o:=(oF Xa))) λ_=>Kc)) (Nat.le_of_ble_eq_true rfl) λa14 v15 C16=>(Yr (K:=K) (J:=({oo:=λx21=>[x21.2.2],ss:=λx21=>[some v_0,some v_1,some v2,some v11,some x21.2.1,x21.1],sc:=λg22 x21=>(SC.addO (SC.add (SC.add (SC.add (SC.add SC.nil K (rP2 (rV (rV Xa)) (rV (rP2 Xa Xa))) v_0 a_0) K (rV (rV Xa)) v_1 a_1) K Xa v2 a1) K (rV (rP3 Xa Xa Xa)) v11 a10) K (oL (oL (oF Xa))) x21.2.1 g22 x21.2.2)}:Jn ((List (List Int))) (Option V×V×List XH))) (λ_=>tg1 5) ((none),v15,C16) (a14) (XF (Xb (r:=Xa) 2 rfl (λ_ s=>s.l.l.r))) rfl rfl (λ_ s=>(SC.i (SC.i (SC.i (SC.i (SC.i SC.t s.l.l.l.l.r) s.l.l.l.r) s.l.l.r) s.l.r) s.r)) (λg23 x24 a25 v26=>(XM (K:=K) (o:=(oL (oL (oF Xa)))) 4 0 (Yc (YY (o:=(oL (oL (oF Xa)))) 4 0 rfl rfl (λ_ s=>s.l.r)) (Xb (r:=(rV (rV Xa))) 1 rfl (λ_ s=>s.l.l.l.l.r)) (Ev.toB (QS (λ_=>tg1 0) (Xt (Xj (r:=(rV (rP3 Xa Xa Xa))) 3 rfl (λ_ s=>s.l.l.r))) (λC31 a32 v33=>(Xv (K:=K) (Q5 (Ho (Ll (Xb (r:=(rP3 Xa Xa Xa)) 0 rfl (λ_ s=>s.r)))) (Xb (r:=Xa) 1 rfl (λ_ s=>s.l.r))))) (λC31 a32 v33=>(EvS.ev (Xj (r:=(rP3 Xa Xa Xa)) 0 rfl (λ_ s=>s.r))))))) (Nat.le_of_ble_eq_true rfl) λa27 v28 C29=>(Xu (J:=_) ((some v26),v28,C29) (a27) rfl rfl (λ_ s=>(SC.i (SC.i (SC.i (SC.i (SC.i SC.t s.l.l.l.l.l.l.r) s.l.l.l.l.l.r) s.l.l.l.l.r) s.l.l.l.r) s.r))))) λg41 x42=>(XB (Yd (o:=(oL (oL (oF Xa)))) 4 0 rfl rfl (λ_ s=>s.r))))))))
theorem LZ:FnScope ["drawing","table"] ["drawing","table"] (Xi Ec):=⟨rfl,rfl,rfl,by decide+kernel,rfl,by decide+kernel,by decide+kernel⟩
theorem LC (D:Def K mg "many" Ec ["drawing","table"])(g_colourings:Fn P w K mg base 6 "colourings" ["drawing","table"] (sp2 (rP2 (rV (rV Xa)) (rV (rP2 Xa Xa))) (rV (rV Xa)) (oL (oL (oF Xa))) Yv K))(Z:Blt mg):Fn P w K mg base 7 "many" ["drawing","table"] (sp2 (rP2 (rV (rV Xa)) (rV (rP2 Xa Xa))) (rV (rV Xa)) (oF Xa) UP K):=by
 refine Yf D LZ (λvs H Q E h=>?_) (λf cdv A outer s H vs Q E hr h=>?_)
 ·obtain⟨v_0,v_1,a_0,a_1,b,rfl,_⟩:=h;rfl
 obtain⟨v_0,v_1,a_0,a_1,b,rfl,h_0,h_1,hm,q⟩:=h
 have hu:=hu8 hr
 have hu1:=Yb hr
 refine⟨_,(Xc (XC (Xy (Xo K rfl) rfl Z.b_len PySem.boot_len (Xd (XN g_colourings hr (by decide) (Xd (pv 0) (Xd (pv 1) Xe))) Xe)))
  Xf),?_⟩
 refine Yk (S:=(SC.add (SC.add SC.nil K (rP2 (rV (rV Xa)) (rV (rP2 Xa Xa))) v_0 a_0) K (rV (rV Xa)) v_1 a_1)) (σ:=[some v_0,some v_1]) 0 ?_ (SC.i (SC.i SC.t h_0) h_1) hm q rfl
 unfold UP
 exact(XB (EvS.ev (EvB.sh (Ym (Ev.toB (XT (Xb (r:=(rP2 (rV (rV Xa)) (rV (rP2 Xa Xa)))) 0 rfl (λ_ s=>s.l.r)) (Xb (r:=(rV (rV Xa))) 1 rfl (λ_ s=>s.r))))))))
theorem Jl:FnScope ["number","divisor"] ["number"] (Xi Vd):=⟨rfl,rfl,rfl,by decide+kernel,rfl,by decide+kernel,by decide+kernel⟩
theorem GT (D:Def K mg "is_prime" Vd ["number"])(Z:Blt mg):Fn P w K mg base 1 "is_prime" ["number"] (sp1 Xa (oF X0) ZK K):=by
 refine Yf D Jl (λvs H Q E h=>?_) (λf cdv A outer s H vs Q E hr h=>?_)
 ·obtain⟨v_0,a_0,b,rfl,_⟩:=h;rfl
 obtain⟨v_0,a_0,b,rfl,h_0,hm,q⟩:=h
 have hu:=hu8 hr
 have hu1:=Yb hr
 refine⟨_,(Xc (Zb (PW.pt (MU (XI Uo (pv 0) Xh (XW _)) (Iz (XI K8 (pv 0) (EJ Z.c_MOST_PRIME rfl) (XW _)))))
   (Xc (XC QE)
   Xf)
   Xf)
  (Xc (Xm (i:=1) Jl.nd rfl (Or.inl rfl) Xh)
  (Xc (VJ PassesOwn.never (XI Ny (Xq Yz (pv 1) (pv 1)) (pv 0) (XW _))
   (Xc (Zb (XI UH (Xq Ya (pv 0) (pv 1)) Xh (XW _))
    (Xc (XC QE)
    Xf)
    Xf)
   (Xc (UM (i:=1) Jl.nd rfl (Or.inl rfl) Xh Gm)
   Xf)))
  (Xc (XC QE)
  Xf)))),?_⟩
 refine Yk (S:=(SC.add SC.nil K Xa v_0 a_0)) (σ:=[some v_0,none]) 0 ?_ (SC.i SC.t h_0) hm q rfl
 unfold ZK
 exact(Q6 (Il (Xv (K:=K) (QJ (Xb (r:=Xa) 0 rfl (λ_ s=>s.r)) (Xg 2))) (Xv (K:=K) (Vj (Xb (r:=Xa) 0 rfl (λ_ s=>s.r)) (Xg 100000)))) (XB (EvS.ev (EvB.sh (ZE false)))) (Xp (K:=K) (r:=Xa) 1 (EvB.sh (Xg 2)) λa6 v7=>(B3 (K:=K) (J:=({oo:=λx8=>[],ss:=λx8=>[some v_0,some x8],sc:=λg9 x8=>(SC.add (SC.add SC.nil K Xa v_0 a_0) K Xa x8 g9)}:Jn (Int) (V))) (a_0.natAbs+2) (v7) (a6) rfl rfl (λ_ s=>(SC.i (SC.i SC.t s.l.r) s.r)) (λg10 x11=>(Xv (K:=K) (Im (XZ (Xb (r:=Xa) 1 rfl (λ_ s=>s.r)) (Xb (r:=Xa) 1 rfl (λ_ s=>s.r))) (Xb (r:=Xa) 0 rfl (λ_ s=>s.l.r))))) (λg10 x11=>(VV (Xv (K:=K) (Q5 (XO (Xb (r:=Xa) 0 rfl (λ_ s=>s.l.r)) (Xb (r:=Xa) 1 rfl (λ_ s=>s.r))) (Xg 0))) (XB (EvS.ev (EvB.sh (ZE false)))) (Ed (K:=K) (f:=λa23=>(Rs.bind (Rs.ok (a23)) λx24=>(Rs.ok (Ctl.nx x24)))) 1 rfl (λ_ s=>s.r) (Xg 1) λa23 v22=>(GC (Xu (J:=_) (v22) (a23) rfl rfl (λ_ s=>(SC.i (SC.i SC.t s.l.l.r) s.r))))))) λg26 x27=>(XB (EvS.ev (EvB.sh (ZE true)))))))
theorem VT:FnScope ["prime","factor"] ["prime","factor"] (Xi Z3):=⟨rfl,rfl,rfl,by decide+kernel,rfl,by decide+kernel,by decide+kernel⟩
theorem Uz (D:Def K mg "refuse_wrong" Z3 ["prime","factor"])(g_is_prime:Fn P w K mg base 1 "is_prime" ["number"] (sp1 Xa (oF X0) ZK K))(Z:Blt mg):Fn P w K mg base 2 "refuse_wrong" ["prime","factor"] (sp2 Xa Xa oU YV K):=by
 refine Yf D VT (λvs H Q E h=>?_) (λf cdv A outer s H vs Q E hr h=>?_)
 ·obtain⟨v_0,v_1,a_0,a_1,b,rfl,_⟩:=h;rfl
 obtain⟨v_0,v_1,a_0,a_1,b,rfl,h_0,h_1,hm,q⟩:=h
 have hu:=hu8 hr
 have hu1:=Yb hr
 refine⟨_,(Xc (Zb (UR (Ve (XN g_is_prime hr (by decide) (Xd (pv 0) Xe))))
   (Xc QT
   Xf)
   Xf)
  (Xc (Zb (XI UH (Xq Ya (pv 1) (pv 0)) Xh (XW _))
   (Xc QT
   Xf)
   Xf)
  Xf)),?_⟩
 refine L7 (J:=({oo:=λx3=>[],ss:=λx3=>[some v_0,some v_1],sc:=λg4 x3=>(SC.add (SC.add SC.nil K Xa v_0 a_0) K Xa v_1 a_1)}:Jn (Unit) (Unit))) (K:=K) (S:=(SC.add (SC.add SC.nil K Xa v_0 a_0) K Xa v_1 a_1)) (σ:=[some v_0,some v_1]) 0 ?_ (SC.i (SC.i SC.t h_0) h_1) hm q (λ_ _=>rfl)
 unfold YV
 exact(FH (Va (UD (K:=K) (Ev.toB (X3 (Xb (r:=Xa) 0 rfl (λ_ s=>s.l.r)))))) (FH (Xv (K:=K) (Q5 (XO (Xb (r:=Xa) 1 rfl (λ_ s=>s.r)) (Xb (r:=Xa) 0 rfl (λ_ s=>s.l.r))) (Xg 0))) (Xu (J:=_) () () rfl rfl (λ_ s=>(SC.i (SC.i SC.t s.l.r) s.r)))))
theorem YZ:FnScope ["drawing","prime","factor","count","told","start","over","end","numbers"] ["drawing","prime","factor"] (Xi Qq):=⟨rfl,rfl,rfl,by decide+kernel,rfl,by decide+kernel,by decide+kernel⟩
theorem Ge (D:Def K mg "equations" Qq ["drawing","prime","factor"])(g_refuse_wrong:Fn P w K mg base 2 "refuse_wrong" ["prime","factor"] (sp2 Xa Xa oU YV K))(g_arc_count:Fn P w K mg base 2 "arc_count" ["drawing"] (sp1 (rP2 (rV (rV Xa)) (rV (rP2 Xa Xa))) (oF Xa) Yy K))(g_ties:Fn P w K mg base 5 "ties" ["drawing"] (sp1 (rP2 (rV (rV Xa)) (rV (rP2 Xa Xa))) (oL (oF (rP3 Xa Xa Xa))) Vh K))(Z:Blt mg):Fn P w K mg base 6 "equations" ["drawing","prime","factor"] (sp3 (rP2 (rV (rV Xa)) (rV (rP2 Xa Xa))) Xa Xa (oL (oL (oF Xa))) Y2 K):=by
 refine Yf D YZ (λvs H Q E h=>?_) (λf cdv A outer s H vs Q E hr h=>?_)
 ·obtain⟨v_0,v_1,v_2,a_0,a_1,a_2,b,rfl,_⟩:=h;rfl
 obtain⟨v_0,v_1,v_2,a_0,a_1,a_2,b,rfl,h_0,h_1,h_2,hm,q⟩:=h
 have hu:=hu8 hr
 have hu1:=Yb hr
 refine⟨_,(Xc (Yl (XN g_refuse_wrong hr (by decide) (Xd (pv 1) (Xd (pv 2) Xe))))
  (Xc (Xm (i:=3) YZ.nd rfl (Or.inl rfl) (XN g_arc_count hr (by decide) (Xd (pv 0) Xe)))
  (Xc (Xm (i:=4) YZ.nd rfl (Or.inl rfl) (X1 Xe))
  (Xc (X6 PassesOwn.never rfl (XG (K:=K) rfl (XN g_ties hr (by decide) (Xd (pv 0) Xe))) (QA rfl (Xs (Xl (i:=5) YZ.nd rfl (Or.inl rfl)) (Xs (Xl (i:=6) YZ.nd rfl (Or.inl rfl)) (Xs (Xl (i:=7) YZ.nd rfl (Or.inl rfl)) Y6))))
   (Xc (Xm (i:=8) YZ.nd rfl (Or.inl rfl) (Xq U0 (X1 (Xd Xh Xe)) (pv 3)))
   (Xc (GG (pv 8) (pv 5) (Kb K rfl) (pv 2) Gm Zv)
   (Xc (GG (pv 8) (pv 6) (Kb K rfl) (Xq JL Xh (pv 2)) Gm Zv)
   (Xc (GG (pv 8) (pv 7) (Kb K rfl) Xh NB Zv)
   (Xc (Yl (ZP PySem.F.plainAttrs_list PySem.F.slot_list_append PySem.F.type_list_append XX (pv 4) (Xd (Yp (sc:=(Xi Qq)) (N0:=["drawing","prime","factor","count","told","start","over","end","numbers"]) (tns:=["number"]) (caps:=[(1,"prime")]) rfl (XG (K:=K) rfl (pv 8)) (YL (by decide)) (λcl C s H ex E=>⟨Xl (i:=0) (show List.Nodup (["number","prime"]:List Str) by decide+kernel) rfl (Or.inl rfl),YD,(Xq Ya (pv 0) (pv 1))⟩)) Xe)))
   Xf))))))
  (Xc (XC (pv 4))
  Xf))))),?_⟩
 refine Yk (S:=(SC.add (SC.add (SC.add SC.nil K (rP2 (rV (rV Xa)) (rV (rP2 Xa Xa))) v_0 a_0) K Xa v_1 a_1) K Xa v_2 a_2)) (σ:=[some v_0,some v_1,some v_2,none,none,none,none,none,none]) 2 ?_ (SC.i (SC.i (SC.i SC.t h_0) h_1) h_2) hm q rfl
 unfold Y2
 exact(GN (Ev.toB (XT (Xb (r:=Xa) 1 rfl (λ_ s=>s.l.r)) (Xb (r:=Xa) 2 rfl (λ_ s=>s.r)))) (Xp (K:=K) (r:=Xa) 3 (EvB.sh (Ev.toB (X3 (Xb (r:=(rP2 (rV (rV Xa)) (rV (rP2 Xa Xa)))) 0 rfl (λ_ s=>s.l.l.r))))) λa5 v6=>(XM (K:=K) (o:=(oL (oL (oF Xa)))) 4 0 (Qt (o:=(oL (oF Xa)))) (Nat.le_of_ble_eq_true rfl) λa9 v10 C11=>(Yr (K:=K) (J:=({oo:=λx14=>[x14.2.2.2.2.2,[]],ss:=λx14=>[some v_0,some v_1,some v_2,some v6,some x14.2.2.2.2.1,x14.1,x14.2.1,x14.2.2.1,x14.2.2.2.1],sc:=λg15 x14=>(SC.addO (SC.add (SC.add (SC.add (SC.add SC.nil K (rP2 (rV (rV Xa)) (rV (rP2 Xa Xa))) v_0 a_0) K Xa v_1 a_1) K Xa v_2 a_2) K Xa v6 a5) K (oL (oL (oF Xa))) x14.2.2.2.2.1 g15 x14.2.2.2.2.2)}:Jn ((List (List Int))) (Option V×Option V×Option V×Option V×V×List XH))) (λ_=>tg3 5 6 7) ((none),(none),(none),(none),v10,C11) (a9) (Xt (Ev.sh (X3 (Xb (r:=(rP2 (rV (rV Xa)) (rV (rP2 Xa Xa)))) 0 rfl (λ_ s=>s.l.l.l.l.r))))) rfl rfl (λ_ s=>(SC.i (SC.i (SC.i (SC.i (SC.i SC.t s.l.l.l.l.r) s.l.l.l.r) s.l.l.r) s.l.r) s.r)) (λg16 x17 a18 v19=>(XM (K:=K) (o:=(oL (oF Xa))) 8 1 (UV (Ev.ls (ZR (Xw (EvB.sh (Xg 0)) Zf))) (Xb (r:=Xa) 3 rfl (λ_ s=>s.l.l.l.l.r))) (Nat.le_of_ble_eq_true rfl) λa20 v21 C22=>(Ka (K:=K) (g:=λi j=>i+j) (f:=λa28=>(Rs.bind (Rs.ok a18.2.1) λx37=>(Rs.bind (atR a28 x37) λx38=>(Rs.bind (Rs.bind (Rs.ok (1:Int)) λx33=>(Rs.bind (Rs.ok a_2) λx34=>(Rs.ok (x33-x34)))) λx39=>(Rs.bind (QO a28 x37 (x38+x39)) λa35=>(Rs.bind (Rs.ok a18.2.2) λx42=>(Rs.bind (atR a35 x42) λx43=>(Rs.bind (Rs.ok (1:Int)) λx44=>(Rs.bind (QO a35 x42 (x43-x44)) λa40=>(Rs.bind (Rs.bind (Rs.ok a40) λx48=>(JP x48 (λa46=>(Rs.bind (Rs.ok a46) λx49=>(Rs.bind (Rs.ok a_1) λx50=>(Z2 x49 x50)))))) λa51=>(chk (g16.length<sizeLine) ((λa53=>(Rs.ok (a53))) (g16++[a51]))))))))))))) 8 1 rfl rfl (λ_ s=>s.r) (Xb (r:=Xa) 5 rfl (λ_ s=>s.l.l.l.r)) (Xb (r:=Xa) 2 rfl (λ_ s=>s.l.l.l.l.l.l.r)) λa28 C29=>(Ka (K:=K) (g:=λi j=>i+j) (f:=λa35=>(Rs.bind (Rs.ok a18.2.2) λx42=>(Rs.bind (atR a35 x42) λx43=>(Rs.bind (Rs.ok (1:Int)) λx44=>(Rs.bind (QO a35 x42 (x43-x44)) λa40=>(Rs.bind (Rs.bind (Rs.ok a40) λx48=>(JP x48 (λa46=>(Rs.bind (Rs.ok a46) λx49=>(Rs.bind (Rs.ok a_1) λx50=>(Z2 x49 x50)))))) λa51=>(chk (g16.length<sizeLine) ((λa53=>(Rs.ok (a53))) (g16++[a51]))))))))) 8 1 rfl rfl (λ_ s=>s.r) (Xb (r:=Xa) 6 rfl (λ_ s=>s.l.l.l.r)) (Qn (Xg 1) (Xb (r:=Xa) 2 rfl (λ_ s=>s.l.l.l.l.l.l.l.r))) λa35 C36=>(Ka (K:=K) (g:=λi j=>i-j) (f:=λa40=>(Rs.bind (Rs.bind (Rs.ok a40) λx48=>(JP x48 (λa46=>(Rs.bind (Rs.ok a46) λx49=>(Rs.bind (Rs.ok a_1) λx50=>(Z2 x49 x50)))))) λa51=>(chk (g16.length<sizeLine) ((λa53=>(Rs.ok (a53))) (g16++[a51]))))) 8 1 rfl rfl (λ_ s=>s.r) (Xb (r:=Xa) 7 rfl (λ_ s=>s.l.l.l.r)) (Xg 1) λa40 C41=>(Zy (K:=K) (o:=(oL (oF Xa))) (f:=λa53=>(Rs.ok (a53))) 4 0 rfl rfl rfl (λ_ s=>s.l.l.l.l.l.l.l.r) (V0 (K:=K) (o1:=(oL (oF Xa))) 1 rfl (λ_ s=>s.r) (YC (λ_=>tg1 0) (Xt (Xj (r:=(rV Xa)) 8 rfl (λ_ s=>s.r))) (λC45 a46 v47=>(EvS.ev (EvB.sh (XO (Xb (r:=Xa) 0 rfl (λ_ s=>s.r)) (Xb (r:=Xa) 1 rfl (λ_ s=>s.l.l.l.l.l.l.l.l.l.l.l.l.r)))))))) λa51 C52=>(GJ 1 (Xu (J:=_) ((some v19.1),(some v19.2.1),(some v19.2.2),(some v21),x17.2.2.2.2.1,C52) ((g16++[a51])) rfl rfl (λ_ s=>(SC.i (SC.i (SC.i (SC.i (SC.i SC.t s.l.l.l.l.l.l.l.l.l.l.l.l.r) s.l.l.l.l.l.l.l.l.l.l.l.r) s.l.l.l.l.l.l.l.l.l.l.r) s.l.l.l.l.l.l.l.l.l.r) s.r)))))))))) λg54 x55=>(XB (Yd (o:=(oL (oL (oF Xa)))) 4 0 rfl rfl (λ_ s=>s.r)))))))
theorem Bf:FnScope ["numbers","colours"] ["numbers","colours"] (Xi VD):=⟨rfl,rfl,rfl,by decide+kernel,rfl,by decide+kernel,by decide+kernel⟩
theorem Cu (D:Def K mg "summed" VD ["numbers","colours"])(Z:Blt mg):Fn P w K mg base 1 "summed" ["numbers","colours"] (sp2 (rV Xa) (rV Xa) (oF Xa) QX K):=by
 refine Yf D Bf (λvs H Q E h=>?_) (λf cdv A outer s H vs Q E hr h=>?_)
 ·obtain⟨v_0,v_1,a_0,a_1,b,rfl,_⟩:=h;rfl
 obtain⟨v_0,v_1,a_0,a_1,b,rfl,h_0,h_1,hm,q⟩:=h
 have hu:=hu8 hr
 have hu1:=Yb hr
 refine⟨_,(Xc (XC (Xy (Ud rfl) rfl Z.b_sum PyProof.Rows.boot_sum (Xd (Yp (sc:=(Xi VD)) (N0:=["numbers","colours"]) (tns:=["number","colour"]) (caps:=[]) rfl (IC K rfl rfl Z.b_zip (Xd (pv 0) (Xd (pv 1) Xe))) (JQ (by decide) (by decide)) (λcl C s H ex E=>⟨Jd K rfl rfl (Xs (Xl (i:=0) (show List.Nodup (["number","colour"]:List Str) by decide+kernel) rfl (Or.inl rfl)) (Xs (Xl (i:=1) (show List.Nodup (["number","colour"]:List Str) by decide+kernel) rfl (Or.inl rfl)) Y6)),YD,(Xq Yz (pv 0) (pv 1))⟩)) Xe)))
  Xf),?_⟩
 refine Yk (S:=(SC.add (SC.add SC.nil K (rV Xa) v_0 a_0) K (rV Xa) v_1 a_1)) (σ:=[some v_0,some v_1]) 0 ?_ (SC.i (SC.i SC.t h_0) h_1) hm q rfl
 unfold QX
 exact(XB (EvS.ev (EvB.sh (Fj (Ev.toB (YC (λ_=>tg2 0 1) (F7 (Xj (r:=(rV Xa)) 0 rfl (λ_ s=>s.l.r)) (Xj (r:=(rV Xa)) 1 rfl (λ_ s=>s.r))) (λC4 a5 v6=>(EvS.ev (EvB.sh (XZ (Xb (r:=Xa) 0 rfl (λ_ s=>s.l.r)) (Xb (r:=Xa) 1 rfl (λ_ s=>s.r))))))))))))
theorem FI:FnScope ["drawing","prime","factor","colours","asked"] ["drawing","prime","factor","colours"] (Xi Kr):=⟨rfl,rfl,rfl,by decide+kernel,rfl,by decide+kernel,by decide+kernel⟩
theorem HU (D:Def K mg "keeps" Kr ["drawing","prime","factor","colours"])(g_equations:Fn P w K mg base 6 "equations" ["drawing","prime","factor"] (sp3 (rP2 (rV (rV Xa)) (rV (rP2 Xa Xa))) Xa Xa (oL (oL (oF Xa))) Y2 K))(g_summed:Fn P w K mg base 1 "summed" ["numbers","colours"] (sp2 (rV Xa) (rV Xa) (oF Xa) QX K))(Z:Blt mg):Fn P w K mg base 7 "keeps" ["drawing","prime","factor","colours"] (sp4 (rP2 (rV (rV Xa)) (rV (rP2 Xa Xa))) Xa Xa (rV Xa) (oF X0) Vb K):=by
 refine Yf D FI (λvs H Q E h=>?_) (λf cdv A outer s H vs Q E hr h=>?_)
 ·obtain⟨v_0,v_1,v_2,v_3,a_0,a_1,a_2,a_3,b,rfl,_⟩:=h;rfl
 obtain⟨v_0,v_1,v_2,v_3,a_0,a_1,a_2,a_3,b,rfl,h_0,h_1,h_2,h_3,hm,q⟩:=h
 have hu:=hu8 hr
 have hu1:=Yb hr
 refine⟨_,(Xc (Xm (i:=4) FI.nd rfl (Or.inl rfl) (XN g_equations hr (by decide) (Xd (pv 0) (Xd (pv 1) (Xd (pv 2) Xe)))))
  (Xc (XC (Xy (Gd rfl) rfl Z.b_all PyProof.Rows.boot_all (Xd (Yp (sc:=(Xi Kr)) (N0:=["drawing","prime","factor","colours","asked"]) (tns:=["equation"]) (caps:=[(3,"colours"),(1,"prime")]) rfl (XG (K:=K) rfl (pv 4)) (YL (by decide)) (λcl C s H ex E=>⟨Xl (i:=0) (show List.Nodup (["equation","colours","prime"]:List Str) by decide+kernel) rfl (Or.inl rfl),YD,(Bv UH (Xq Ya (XN g_summed hr (by decide) (Xd (pv 0) (Xd (pv 1) Xe))) (pv 2)) Xh (XW _))⟩)) Xe)))
  Xf)),?_⟩
 refine Yk (S:=(SC.add (SC.add (SC.add (SC.add SC.nil K (rP2 (rV (rV Xa)) (rV (rP2 Xa Xa))) v_0 a_0) K Xa v_1 a_1) K Xa v_2 a_2) K (rV Xa) v_3 a_3)) (σ:=[some v_0,some v_1,some v_2,some v_3,none]) 0 ?_ (SC.i (SC.i (SC.i (SC.i SC.t h_0) h_1) h_2) h_3) hm q rfl
 unfold Vb
 exact(Xp (K:=K) (r:=(rV (rV Xa))) 4 (Ev.sh (Yc (Xb (r:=(rP2 (rV (rV Xa)) (rV (rP2 Xa Xa)))) 0 rfl (λ_ s=>s.l.l.l.r)) (Xb (r:=Xa) 1 rfl (λ_ s=>s.l.l.r)) (Xb (r:=Xa) 2 rfl (λ_ s=>s.l.r)))) λa1 v2=>(XB (EvS.ev (EvB.sh (C6 (Ev.toB (YC (λ_=>tg1 0) (Xt (Xj (r:=(rV (rV Xa))) 4 rfl (λ_ s=>s.r))) (λC8 a9 v10=>(EvS.ev (EvB.sh (Q5 (XO (Ev.toB (XT (Xb (r:=(rV Xa)) 0 rfl (λ_ s=>s.r)) (Xb (r:=(rV Xa)) 1 rfl (λ_ s=>s.l.l.r)))) (Xb (r:=Xa) 2 rfl (λ_ s=>s.l.l.l.l.r))) (Xg 0))))))))))))
theorem Hc:FnScope ["row","number","prime"] ["row","number","prime"] (Xi Km):=⟨rfl,rfl,rfl,by decide+kernel,rfl,by decide+kernel,by decide+kernel⟩
theorem H9 (D:Def K mg "times" Km ["row","number","prime"])(Z:Blt mg):Fn P w K mg base 1 "times" ["row","number","prime"] (sp3 (rV Xa) Xa Xa (oL (oF Xa)) J5 K):=by
 refine Yf D Hc (λvs H Q E h=>?_) (λf cdv A outer s H vs Q E hr h=>?_)
 ·obtain⟨v_0,v_1,v_2,a_0,a_1,a_2,b,rfl,_⟩:=h;rfl
 obtain⟨v_0,v_1,v_2,a_0,a_1,a_2,b,rfl,h_0,h_1,h_2,hm,q⟩:=h
 have hu:=hu8 hr
 have hu1:=Yb hr
 refine⟨_,(Xc (XC (Yp (sc:=(Xi Km)) (N0:=["row","number","prime"]) (tns:=["entry"]) (caps:=[(1,"number"),(2,"prime")]) rfl (XG (K:=K) rfl (pv 0)) (YL (by decide)) (λcl C s H ex E=>⟨Xl (i:=0) (show List.Nodup (["entry","number","prime"]:List Str) by decide+kernel) rfl (Or.inl rfl),YD,(Xq Ya (Xq Yz (pv 1) (pv 0)) (pv 2))⟩)))
  Xf),?_⟩
 refine Yk (S:=(SC.add (SC.add (SC.add SC.nil K (rV Xa) v_0 a_0) K Xa v_1 a_1) K Xa v_2 a_2)) (σ:=[some v_0,some v_1,some v_2]) 0 ?_ (SC.i (SC.i (SC.i SC.t h_0) h_1) h_2) hm q rfl
 unfold J5
 exact(XB (YC (λ_=>tg1 0) (Xt (Xj (r:=(rV Xa)) 0 rfl (λ_ s=>s.l.l.r))) (λC1 a2 v3=>(EvS.ev (EvB.sh (XO (XZ (Xb (r:=Xa) 1 rfl (λ_ s=>s.l.l.r)) (Xb (r:=Xa) 0 rfl (λ_ s=>s.r))) (Xb (r:=Xa) 2 rfl (λ_ s=>s.l.r))))))))
theorem Yj:FnScope ["number","prime","told","square","left"] ["number","prime"] (Xi Z7):=⟨rfl,rfl,rfl,by decide+kernel,rfl,by decide+kernel,by decide+kernel⟩
theorem Ug (D:Def K mg "inverse_rest" Z7 ["number","prime"])(Z:Blt mg):Fn P w K mg base 1 "inverse_rest" ["number","prime"] (sp2 Xa Xa (oF Xa) YU K):=by
 refine Yf D Yj (λvs H Q E h=>?_) (λf cdv A outer s H vs Q E hr h=>?_)
 ·obtain⟨v_0,v_1,a_0,a_1,b,rfl,_⟩:=h;rfl
 obtain⟨v_0,v_1,a_0,a_1,b,rfl,h_0,h_1,hm,q⟩:=h
 have hu:=hu8 hr
 have hu1:=Yb hr
 refine⟨_,(Xc (Xm (i:=2) Yj.nd rfl (Or.inl rfl) Xh)
  (Xc (Xm (i:=3) Yj.nd rfl (Or.inl rfl) (pv 0))
  (Xc (Xm (i:=4) Yj.nd rfl (Or.inl rfl) (Xq JL (pv 1) Xh))
  (Xc (VJ PassesOwn.never (XI K8 (pv 4) Xh (XW _))
   (Xc (Zb (XI UH (Xq Ya (pv 4) Xh) Xh (XW _))
    (Xc (Xm (i:=2) Yj.nd rfl (Or.inl rfl) (Xq Ya (Xq Yz (pv 2) (pv 3)) (pv 1)))
    Xf)
    Xf)
   (Xc (Xm (i:=3) Yj.nd rfl (Or.inl rfl) (Xq Ya (Xq Yz (pv 3) (pv 3)) (pv 1)))
   (Xc (UM (i:=4) Yj.nd rfl (Or.inl rfl) Xh LY)
   Xf))))
  (Xc (XC (pv 2))
  Xf))))),?_⟩
 refine Yk (S:=(SC.add (SC.add SC.nil K Xa v_0 a_0) K Xa v_1 a_1)) (σ:=[some v_0,some v_1,none,none,none]) 0 ?_ (SC.i (SC.i SC.t h_0) h_1) hm q rfl
 unfold YU
 exact(Xp (K:=K) (r:=Xa) 2 (EvB.sh (Xg 1)) λa1 v2=>(Xp (K:=K) (r:=Xa) 3 (Xj (r:=Xa) 0 rfl (λ_ s=>s.l.l.r)) λa3 v4=>(Xp (K:=K) (r:=Xa) 4 (EvB.sh (Qn (Xb (r:=Xa) 1 rfl (λ_ s=>s.l.l.r)) (Xg 2))) λa5 v6=>(Kz (J:=({oo:=λx9=>[],ss:=λx9=>[some v_0,some v_1,some x9.2.2,some x9.1,some x9.2.1],sc:=λg10 x9=>(SC.add (SC.add (SC.add (SC.add (SC.add SC.nil K Xa v_0 a_0) K Xa v_1 a_1) K Xa x9.1 g10.1) K Xa x9.2.1 g10.2.1) K Xa x9.2.2 g10.2.2)}:Jn (Int×Int×Int) (V×V×V))) (100) (v4,v6,v2) (a3,a5,a1) rfl rfl (λ_ s=>(SC.i (SC.i (SC.i (SC.i (SC.i SC.t s.l.l.l.l.r) s.l.l.l.r) s.l.r) s.r) s.l.l.r)) (λg11 x12=>(Xv (K:=K) (Vj (Xb (r:=Xa) 4 rfl (λ_ s=>s.l.r)) (Xg 0)))) (λg11 x12=>(Zl (J:=({oo:=λx20=>[],ss:=λx20=>[some v_0,some v_1,some x20,some x12.1,some x12.2.1],sc:=λg21 x20=>(SC.add (SC.add (SC.add (SC.add (SC.add SC.nil K Xa v_0 a_0) K Xa v_1 a_1) K Xa x12.1 g11.1) K Xa x12.2.1 g11.2.1) K Xa x20 g21)}:Jn (Int) (V))) (Z1 (Fd:=FNd ({oo:=λx20=>[],ss:=λx20=>[some v_0,some v_1,some x20,some x12.1,some x12.2.1],sc:=λg21 x20=>(SC.add (SC.add (SC.add (SC.add (SC.add SC.nil K Xa v_0 a_0) K Xa v_1 a_1) K Xa x12.1 g11.1) K Xa x12.2.1 g11.2.1) K Xa x20 g21)}:Jn (Int) (V))) (Xv (K:=K) (Q5 (XO (Xb (r:=Xa) 4 rfl (λ_ s=>s.l.r)) (Xg 2)) (Xg 1))) (Xp (K:=K) (r:=Xa) 2 (EvB.sh (XO (XZ (Xb (r:=Xa) 2 rfl (λ_ s=>s.r)) (Xb (r:=Xa) 3 rfl (λ_ s=>s.l.l.r))) (Xb (r:=Xa) 1 rfl (λ_ s=>s.l.l.l.r)))) λa22 v23=>(Xu (J:=_) (v23) (a22) rfl rfl (λ_ s=>(SC.i (SC.i (SC.i (SC.i (SC.i SC.t s.l.l.l.l.l.r) s.l.l.l.l.r) s.l.l.l.r) s.l.l.r) s.r)))) (Xu (J:=_) (x12.2.2) (g11.2.2) rfl rfl (λ_ s=>(SC.i (SC.i (SC.i (SC.i (SC.i SC.t s.l.l.l.l.r) s.l.l.l.r) s.l.l.r) s.l.r) s.r)))) λg29 x28=>(Xp (K:=K) (r:=Xa) 3 (EvB.sh (XO (XZ (Xb (r:=Xa) 3 rfl (λ_ s=>s.l.l.r)) (Xb (r:=Xa) 3 rfl (λ_ s=>s.l.l.r))) (Xb (r:=Xa) 1 rfl (λ_ s=>s.l.l.l.r)))) λa30 v31=>(LK (K:=K) 4 rfl (λ_ s=>s.l.l.r) (Xg 2) λa38 v37=>(Xu (J:=_) (v31,v37,x28) (a30,a38,g29) rfl rfl (λ_ s=>(SC.i (SC.i (SC.i (SC.i (SC.i SC.t s.l.l.l.l.l.l.r) s.l.l.l.l.l.r) s.l.r) s.r) s.l.l.r))))))) λg39 x40=>(XB (EvS.ev (Xj (r:=Xa) 2 rfl (λ_ s=>s.r))))))))
theorem DH:FnScope ["row","lead","arc","prime"] ["row","lead","arc","prime"] (Xi Ju):=⟨rfl,rfl,rfl,by decide+kernel,rfl,by decide+kernel,by decide+kernel⟩
theorem DO (D:Def K mg "cleared" Ju ["row","lead","arc","prime"])(Z:Blt mg):Fn P w K mg base 1 "cleared" ["row","lead","arc","prime"] (sp4 (rV Xa) (rV Xa) Xa Xa (oL (oF Xa)) Zx K):=by
 refine Yf D DH (λvs H Q E h=>?_) (λf cdv A outer s H vs Q E hr h=>?_)
 ·obtain⟨v_0,v_1,v_2,v_3,a_0,a_1,a_2,a_3,b,rfl,_⟩:=h;rfl
 obtain⟨v_0,v_1,v_2,v_3,a_0,a_1,a_2,a_3,b,rfl,h_0,h_1,h_2,h_3,hm,q⟩:=h
 have hu:=hu8 hr
 have hu1:=Yb hr
 refine⟨_,(Xc (XC (Yp (sc:=(Xi Ju)) (N0:=["row","lead","arc","prime"]) (tns:=["entry","other"]) (caps:=[(0,"row"),(2,"arc"),(3,"prime")]) rfl (IC K rfl rfl Z.b_zip (Xd (pv 0) (Xd (pv 1) Xe))) (JQ (by decide) (by decide)) (λcl C s H ex E=>⟨Jd K rfl rfl (Xs (Xl (i:=0) (show List.Nodup (["entry","other","row","arc","prime"]:List Str) by decide+kernel) rfl (Or.inl rfl)) (Xs (Xl (i:=1) (show List.Nodup (["entry","other","row","arc","prime"]:List Str) by decide+kernel) rfl (Or.inl rfl)) Y6)),YD,(Xq Ya (Xq JL (pv 0) (Xq Yz (XJ (Xn K rfl) (pv 2) (pv 3) (λ_ _=>rfl)) (pv 1))) (pv 4))⟩)))
  Xf),?_⟩
 refine Yk (S:=(SC.add (SC.add (SC.add (SC.add SC.nil K (rV Xa) v_0 a_0) K (rV Xa) v_1 a_1) K Xa v_2 a_2) K Xa v_3 a_3)) (σ:=[some v_0,some v_1,some v_2,some v_3]) 0 ?_ (SC.i (SC.i (SC.i (SC.i SC.t h_0) h_1) h_2) h_3) hm q rfl
 unfold Zx
 exact(XB (YC (λ_=>tg2 0 1) (F7 (Xj (r:=(rV Xa)) 0 rfl (λ_ s=>s.l.l.l.r)) (Xj (r:=(rV Xa)) 1 rfl (λ_ s=>s.l.l.r))) (λC3 a4 v5=>(EvS.ev (EvB.sh (XO (Qn (Xb (r:=Xa) 0 rfl (λ_ s=>s.l.r)) (XZ (XE (Xb (r:=(rV Xa)) 2 rfl (λ_ s=>s.l.l.l.l.l.r)) (Xb (r:=Xa) 3 rfl (λ_ s=>s.l.l.l.r))) (Xb (r:=Xa) 1 rfl (λ_ s=>s.r)))) (Xb (r:=Xa) 4 rfl (λ_ s=>s.l.l.r))))))))
theorem Y1:FnScope ["rows","count","prime","told","waiting","arc","leads","lead"] ["rows","count","prime"] (Xi ZL):=⟨rfl,rfl,rfl,by decide+kernel,rfl,by decide+kernel,by decide+kernel⟩
theorem G3 (D:Def K mg "led_rows" ZL ["rows","count","prime"])(g_times:Fn P w K mg base 1 "times" ["row","number","prime"] (sp3 (rV Xa) Xa Xa (oL (oF Xa)) J5 K))(g_inverse_rest:Fn P w K mg base 1 "inverse_rest" ["number","prime"] (sp2 Xa Xa (oF Xa) YU K))(g_cleared:Fn P w K mg base 1 "cleared" ["row","lead","arc","prime"] (sp4 (rV Xa) (rV Xa) Xa Xa (oL (oF Xa)) Zx K))(Z:Blt mg):Fn P w K mg base 2 "led_rows" ["rows","count","prime"] (sp3 (rV (rV Xa)) Xa Xa (oL (oT2 (oF Xa) (oL (oF Xa)))) ZM K):=by
 refine Yf D Y1 (λvs H Q E h=>?_) (λf cdv A outer s H vs Q E hr h=>?_)
 ·obtain⟨v_0,v_1,v_2,a_0,a_1,a_2,b,rfl,_⟩:=h;rfl
 obtain⟨v_0,v_1,v_2,a_0,a_1,a_2,b,rfl,h_0,h_1,h_2,hm,q⟩:=h
 have hu:=hu8 hr
 have hu1:=Yb hr
 refine⟨_,(Xc (Xm (i:=3) Y1.nd rfl (Or.inl rfl) (X1 Xe))
  (Xc (Xm (i:=4) Y1.nd rfl (Or.inl rfl) (pv 0))
  (Xc (X6 PassesOwn.never rfl (XR rfl Z.b_range (Xd (pv 1) Xe)) (Xl (i:=5) Y1.nd rfl (Or.inr rfl))
   (Xc (J3 6 (Xi ZL) ["rows","count","prime","told","waiting","arc","leads","lead"] ["row"] [(5,"arc")] rfl Y1.nd rfl rfl (XG (K:=K) rfl (pv 4)) (YL (by decide)) (λcl C s H ex E=>⟨Xl (i:=0) (show List.Nodup (["row","arc"]:List Str) by decide+kernel) rfl (Or.inl rfl),(JU (XI Dz (XJ (Xn K rfl) (pv 0) (pv 1) (λ_ _=>rfl)) Xh (XW _))),(pv 0)⟩))
   (Xc (Zb (XI K8 (Xy (Xo K rfl) rfl Z.b_len PySem.boot_len (Xd (pv 6) Xe)) Xh (XW _))
    (Xc (Xm (i:=7) Y1.nd rfl (Or.inr rfl) (XN g_times hr (by decide) (Xd (XJ (Xn K rfl) (pv 6) Xh (λ_ _=>rfl)) (Xd (XN g_inverse_rest hr (by decide) (Xd (XJ (Xn K rfl) (XJ (Xn K rfl) (pv 6) Xh (λ_ _=>rfl)) (pv 5) (λ_ _=>rfl)) (Xd (pv 2) Xe))) (Xd (pv 2) Xe)))))
    (Xc (J3 4 (Xi ZL) ["rows","count","prime","told","waiting","arc","leads","lead"] ["row"] [(7,"lead"),(5,"arc"),(2,"prime")] rfl Y1.nd rfl rfl (XG (K:=K) rfl (pv 4)) (YL (by decide)) (λcl C s H ex E=>⟨Xl (i:=0) (show List.Nodup (["row","lead","arc","prime"]:List Str) by decide+kernel) rfl (Or.inl rfl),YD,(XN g_cleared hr (by decide) (Xd (pv 0) (Xd (pv 1) (Xd (pv 2) (Xd (pv 3) Xe)))))⟩))
    (Xc (Xm (i:=3) Y1.nd rfl (Or.inl rfl) (Xq KM (Yp (sc:=(Xi ZL)) (N0:=["rows","count","prime","told","waiting","arc","leads","lead"]) (tns:=["other","row"]) (caps:=[(7,"lead"),(5,"arc"),(2,"prime")]) rfl (XG (K:=K) rfl (pv 3)) (JQ (by decide) (by decide)) (λcl C s H ex E=>⟨Jd K rfl rfl (Xs (Xl (i:=0) (show List.Nodup (["other","row","lead","arc","prime"]:List Str) by decide+kernel) rfl (Or.inl rfl)) (Xs (Xl (i:=1) (show List.Nodup (["other","row","lead","arc","prime"]:List Str) by decide+kernel) rfl (Or.inl rfl)) Y6)),YD,(ZF (Xd (pv 0) (Xd (XN g_cleared hr (by decide) (Xd (pv 1) (Xd (pv 2) (Xd (pv 3) (Xd (pv 4) Xe))))) Xe)))⟩)) (X1 (Xd (ZF (Xd (pv 5) (Xd (pv 7) Xe))) Xe))))
    Xf)))
    Xf)
   Xf)))
  (Xc (XC (pv 3))
  Xf)))),?_⟩
 refine Yk (S:=(SC.add (SC.add (SC.add SC.nil K (rV (rV Xa)) v_0 a_0) K Xa v_1 a_1) K Xa v_2 a_2)) (σ:=[some v_0,some v_1,some v_2,none,none,none,none,none]) 2 ?_ (SC.i (SC.i (SC.i SC.t h_0) h_1) h_2) hm q rfl
 unfold ZM
 exact(XM (K:=K) (o:=(oL (oT2 (oF Xa) (oL (oF Xa))))) 3 0 (Qt (o:=(oT2 (oF Xa) (oL (oF Xa))))) (Nat.le_of_ble_eq_true rfl) λa1 v2 C3=>(Xp (K:=K) (r:=(rV (rV Xa))) 4 (Xj (r:=(rV (rV Xa))) 0 rfl (λ_ s=>s.l.l.l.r)) λa4 v5=>(Yr (K:=K) (J:=({oo:=λx7=>[x7.2.2.2.2.2,[]],ss:=λx7=>[some v_0,some v_1,some v_2,some x7.2.2.2.2.1,some x7.2.2.2.1,x7.1,x7.2.1,x7.2.2.1],sc:=λg8 x7=>(SC.addO (SC.add (SC.add (SC.add (SC.add SC.nil K (rV (rV Xa)) v_0 a_0) K Xa v_1 a_1) K Xa v_2 a_2) K (rV (rV Xa)) x7.2.2.2.1 g8.1) K (oL (oT2 (oF Xa) (oL (oF Xa)))) x7.2.2.2.2.1 g8.2 x7.2.2.2.2.2)}:Jn ((List (List Int))×(List (Int×(List Int)))) (Option V×Option V×Option V×V×V×List XH))) (λ_=>tg1 5) ((none),(none),(none),v5,v2,C3) (a4,a1) (XF (Xb (r:=Xa) 1 rfl (λ_ s=>s.l.l.l.r))) rfl rfl (λ_ s=>(SC.i (SC.i (SC.i (SC.i (SC.i SC.t s.l.l.l.l.r) s.l.l.l.r) s.l.l.r) s.r) s.l.r)) (λg9 x10 a11 v12=>(Xp (K:=K) (r:=(rV (rV Xa))) 6 (Ev.sh (QS (λ_=>tg1 0) (Xt (Xj (r:=(rV (rV Xa))) 4 rfl (λ_ s=>s.l.l.r))) (λC15 a16 v17=>(Xv (K:=K) (UL (XE (Xb (r:=(rV Xa)) 0 rfl (λ_ s=>s.r)) (Xb (r:=Xa) 1 rfl (λ_ s=>s.l.r))) (Xg 0)))) (λC15 a16 v17=>(EvS.ev (Xj (r:=(rV Xa)) 0 rfl (λ_ s=>s.r)))))) λa13 v14=>(Zl (J:=({oo:=λx27=>[x27.2.2.2,[]],ss:=λx27=>[some v_0,some v_1,some v_2,some x27.2.2.1,some x27.2.1,some v12,some v14,x27.1],sc:=λg28 x27=>(SC.addO (SC.add (SC.add (SC.add (SC.add (SC.add (SC.add SC.nil K (rV (rV Xa)) v_0 a_0) K Xa v_1 a_1) K Xa v_2 a_2) K Xa v12 a11) K (rV (rV Xa)) v14 a13) K (rV (rV Xa)) x27.2.1 g28.1) K (oL (oT2 (oF Xa) (oL (oF Xa)))) x27.2.2.1 g28.2 x27.2.2.2)}:Jn ((List (List Int))×(List (Int×(List Int)))) (Option V×V×V×List XH))) (Z1 (Fd:=FNd ({oo:=λx27=>[x27.2.2.2,[]],ss:=λx27=>[some v_0,some v_1,some v_2,some x27.2.2.1,some x27.2.1,some v12,some v14,x27.1],sc:=λg28 x27=>(SC.addO (SC.add (SC.add (SC.add (SC.add (SC.add (SC.add SC.nil K (rV (rV Xa)) v_0 a_0) K Xa v_1 a_1) K Xa v_2 a_2) K Xa v12 a11) K (rV (rV Xa)) v14 a13) K (rV (rV Xa)) x27.2.1 g28.1) K (oL (oT2 (oF Xa) (oL (oF Xa)))) x27.2.2.1 g28.2 x27.2.2.2)}:Jn ((List (List Int))×(List (Int×(List Int)))) (Option V×V×V×List XH))) (Xv (K:=K) (Vj (Ym (Xb (r:=(rV (rV Xa))) 6 rfl (λ_ s=>s.r))) (Xg 0))) (XM (K:=K) (o:=(oL (oF Xa))) 7 1 (Yc (XE (Xb (r:=(rV (rV Xa))) 6 rfl (λ_ s=>s.r)) (Xg 0)) (Ev.toB (XT (XE (XE (Xb (r:=(rV (rV Xa))) 6 rfl (λ_ s=>s.r)) (Xg 0)) (Xb (r:=Xa) 5 rfl (λ_ s=>s.l.r))) (Xb (r:=Xa) 2 rfl (λ_ s=>s.l.l.l.l.r)))) (Xb (r:=Xa) 2 rfl (λ_ s=>s.l.l.l.l.r))) (Nat.le_of_ble_eq_true rfl) λa29 v30 C31=>(Xp (K:=K) (r:=(rV (rV Xa))) 4 (Ev.sh (YC (λ_=>tg1 0) (Xt (Xj (r:=(rV (rV Xa))) 4 rfl (λ_ s=>s.l.l.l.l.r))) (λC47 a48 v49=>(Q0 (Xb (r:=(rV Xa)) 0 rfl (λ_ s=>s.r)) (YY (o:=(oL (oF Xa))) 1 2 rfl rfl (λ_ s=>s.l.r)) (Xb (r:=Xa) 2 rfl (λ_ s=>s.l.l.l.r)) (Xb (r:=Xa) 3 rfl (λ_ s=>s.l.l.l.l.l.l.r)))))) λa45 v46=>(XM (K:=K) (o:=(oL (oT2 (oF Xa) (oL (oF Xa))))) 3 0 (Mj (V0 (K:=K) (o1:=(oL (oT2 (oF Xa) (oL (oF Xa))))) 0 rfl (λ_ s=>s.l.l.l.l.r) (YC (λ_=>tg2 0 1) (Xt (Xj (r:=(rV (rP2 Xa (rV Xa)))) 3 rfl (λ_ s=>s.r))) (λC61 a62 v63=>(JE (EvS.ev (Xj (r:=Xa) 0 rfl (λ_ s=>s.l.r))) λ_=>(Q0 (Xb (r:=(rV Xa)) 1 rfl (λ_ s=>s.r)) (YY (o:=(oL (oF Xa))) 2 3 rfl rfl (λ_ s=>s.l.l.l.l.r)) (Xb (r:=Xa) 3 rfl (λ_ s=>s.l.l.l.l.l.l.r)) (Xb (r:=Xa) 4 rfl (λ_ s=>s.l.l.l.l.l.l.l.l.l.r))))))) λ_=>(LO (Uj (JE (EvS.ev (Xj (r:=Xa) 5 rfl (λ_ s=>s.l.l.l.r))) λ_=>(Yd (o:=(oL (oF Xa))) 7 3 rfl rfl (λ_ s=>s.l.r))) λ_=>Kc))) (Nat.le_of_ble_eq_true rfl) λa56 v57 C58=>(Xu (J:=_) ((some v30),v46,v57,C58) (a45,a56) rfl rfl (λ_ s=>(SC.i (SC.i (SC.i (SC.i (SC.i (SC.i (SC.i SC.t s.l.l.l.l.l.l.l.l.l.r) s.l.l.l.l.l.l.l.l.r) s.l.l.l.l.l.l.l.r) s.l.l.l.l.r) s.l.l.l.r) s.l.r) s.r)))))) (Xu (J:=_) ((x10.2.2.1),x10.2.2.2.1,x10.2.2.2.2.1,x10.2.2.2.2.2) (g9.1,g9.2) rfl rfl (λ_ s=>(SC.i (SC.i (SC.i (SC.i (SC.i (SC.i (SC.i SC.t s.l.l.l.l.l.l.r) s.l.l.l.l.l.r) s.l.l.l.l.r) s.l.r) s.r) s.l.l.l.r) s.l.l.r)))) λg78 x77=>(Xu (J:=_) ((some v12),(some v14),(x77.1),x77.2.1,x77.2.2.1,x77.2.2.2) (g78.1,g78.2) rfl rfl (λ_ s=>(SC.i (SC.i (SC.i (SC.i (SC.i SC.t s.l.l.l.l.l.l.r) s.l.l.l.l.l.r) s.l.l.l.l.r) s.l.r) s.r)))))) λg79 x80=>(XB (Yd (o:=(oL (oT2 (oF Xa) (oL (oF Xa))))) 3 0 rfl rfl (λ_ s=>s.r))))))
theorem CD:FnScope ["count","at","numbers"] ["count","at"] (Xi CT):=⟨rfl,rfl,rfl,by decide+kernel,rfl,by decide+kernel,by decide+kernel⟩
theorem Mk (D:Def K mg "unit" CT ["count","at"])(Z:Blt mg):Fn P w K mg base 1 "unit" ["count","at"] (sp2 Xa Xa (oL (oF Xa)) Vm K):=by
 refine Yf D CD (λvs H Q E h=>?_) (λf cdv A outer s H vs Q E hr h=>?_)
 ·obtain⟨v_0,v_1,a_0,a_1,b,rfl,_⟩:=h;rfl
 obtain⟨v_0,v_1,a_0,a_1,b,rfl,h_0,h_1,hm,q⟩:=h
 have hu:=hu8 hr
 have hu1:=Yb hr
 refine⟨_,(Xc (Xm (i:=2) CD.nd rfl (Or.inl rfl) (Xq U0 (X1 (Xd Xh Xe)) (pv 0)))
  (Xc (Q8 Xh (Uu (pv 2) (pv 1) Zv))
  (Xc (XC (pv 2))
  Xf))),?_⟩
 refine Yk (S:=(SC.add (SC.add SC.nil K Xa v_0 a_0) K Xa v_1 a_1)) (σ:=[some v_0,some v_1,none]) 1 ?_ (SC.i (SC.i SC.t h_0) h_1) hm q rfl
 unfold Vm
 exact(XM (K:=K) (o:=(oL (oF Xa))) 2 0 (UV (Ev.ls (ZR (Xw (EvB.sh (Xg 0)) Zf))) (Xb (r:=Xa) 0 rfl (λ_ s=>s.l.r))) (Nat.le_of_ble_eq_true rfl) λa1 v2 C3=>(Qi (K:=K) (o:=(oF Xa)) 2 0 rfl rfl (λ_ s=>s.r) (EvS.ev (EvB.sh (Xg 1))) (λ_=>(Xb (r:=Xa) 1 rfl (λ_ s=>s.l.r))) λa11 C12=>(XB (Yd (o:=(oL (oF Xa))) 2 0 rfl rfl (λ_ s=>s.r)))))
theorem VL:FnScope ["rows"] ["rows"] (Xi Zw):=⟨rfl,rfl,rfl,by decide+kernel,rfl,by decide+kernel,by decide+kernel⟩
theorem Ub (D:Def K mg "with_factors" Zw ["rows"])(g_unit:Fn P w K mg base 1 "unit" ["count","at"] (sp2 Xa Xa (oL (oF Xa)) Vm K))(Z:Blt mg):Fn P w K mg base 2 "with_factors" ["rows"] (sp1 (rV (rV Xa)) (oL (oL (oF Xa))) YQ K):=by
 refine Yf D VL (λvs H Q E h=>?_) (λf cdv A outer s H vs Q E hr h=>?_)
 ·obtain⟨v_0,a_0,b,rfl,_⟩:=h;rfl
 obtain⟨v_0,a_0,b,rfl,h_0,hm,q⟩:=h
 have hu:=hu8 hr
 have hu1:=Yb hr
 refine⟨_,(Xc (XC (Yp (sc:=(Xi Zw)) (N0:=["rows"]) (tns:=["at","row"]) (caps:=[(0,"rows")]) rfl (BT rfl Z.b_enumerate (pv 0)) (JQ (by decide) (by decide)) (λcl C s H ex E=>⟨Jd K rfl rfl (Xs (Xl (i:=0) (show List.Nodup (["at","row","rows"]:List Str) by decide+kernel) rfl (Or.inl rfl)) (Xs (Xl (i:=1) (show List.Nodup (["at","row","rows"]:List Str) by decide+kernel) rfl (Or.inl rfl)) Y6)),YD,(Xq KM (pv 1) (XN g_unit hr (by decide) (Xd (Xy (Xo K rfl) rfl Z.b_len PySem.boot_len (Xd (pv 2) Xe)) (Xd (pv 0) Xe))))⟩)))
  Xf),?_⟩
 refine Yk (S:=(SC.add SC.nil K (rV (rV Xa)) v_0 a_0)) (σ:=[some v_0]) 0 ?_ (SC.i SC.t h_0) hm q rfl
 unfold YQ
 exact(XB (YC (λ_=>tg2 0 1) (Gh (Xj (r:=(rV (rV Xa))) 0 rfl (λ_ s=>s.r))) (λC2 a3 v4=>(Dm (EvS.ls (Xj (r:=(rV Xa)) 1 rfl (λ_ s=>s.r))) (Ev.ls (XT (Ym (Xb (r:=(rV (rV Xa))) 2 rfl (λ_ s=>s.l.l.r))) (Xb (r:=Xa) 0 rfl (λ_ s=>s.l.r))))))))
theorem Zn:FnScope ["free","tied","count","prime","colours","arc","row"] ["free","tied","count","prime"] (Xi Z9):=⟨rfl,rfl,rfl,by decide+kernel,rfl,by decide+kernel,by decide+kernel⟩
theorem V7 (D:Def K mg "colouring_of" Z9 ["free","tied","count","prime"])(g_unit:Fn P w K mg base 1 "unit" ["count","at"] (sp2 Xa Xa (oL (oF Xa)) Vm K))(Z:Blt mg):Fn P w K mg base 2 "colouring_of" ["free","tied","count","prime"] (sp4 Xa (rDf (rV Xa)) Xa Xa (oL (oF Xa)) YS K):=by
 refine Yf D Zn (λvs H Q E h=>?_) (λf cdv A outer s H vs Q E hr h=>?_)
 ·obtain⟨v_0,v_1,v_2,v_3,a_0,a_1,a_2,a_3,b,rfl,_⟩:=h;rfl
 obtain⟨v_0,v_1,v_2,v_3,a_0,a_1,a_2,a_3,b,rfl,h_0,h_1,h_2,h_3,hm,q⟩:=h
 have hu:=hu8 hr
 have hu1:=Yb hr
 refine⟨_,(Xc (Xm (i:=4) Zn.nd rfl (Or.inl rfl) (XN g_unit hr (by decide) (Xd (pv 2) (Xd (pv 0) Xe))))
  (Xc (X6 PassesOwn.never rfl (Hy (pv 1)) (QA rfl (Xs (Xl (i:=5) Zn.nd rfl (Or.inl rfl)) (Xs (Xl (i:=6) Zn.nd rfl (Or.inl rfl)) Y6)))
   (Xc (Q8 (Xq Ya (Up QG (XJ (Xn K rfl) (pv 6) (pv 0) (λ_ _=>rfl))) (pv 3)) (Uu (pv 4) (pv 5) Zv))
   Xf))
  (Xc (XC (pv 4))
  Xf))),?_⟩
 refine Yk (S:=(SC.add (SC.add (SC.add (SC.add SC.nil K Xa v_0 a_0) K (rDf (rV Xa)) v_1 a_1) K Xa v_2 a_2) K Xa v_3 a_3)) (σ:=[some v_0,some v_1,some v_2,some v_3,none,none,none]) 1 ?_ (SC.i (SC.i (SC.i (SC.i SC.t h_0) h_1) h_2) h_3) hm q rfl
 unfold YS
 exact(XM (K:=K) (o:=(oL (oF Xa))) 4 0 (XT (Xb (r:=Xa) 2 rfl (λ_ s=>s.l.r)) (Xb (r:=Xa) 0 rfl (λ_ s=>s.l.l.l.r))) (Nat.le_of_ble_eq_true rfl) λa1 v2 C3=>(Yr (K:=K) (J:=({oo:=λx7=>[x7.2.2.2],ss:=λx7=>[some v_0,some v_1,some v_2,some v_3,some x7.2.2.1,x7.1,x7.2.1],sc:=λg8 x7=>(SC.addO (SC.add (SC.add (SC.add (SC.add SC.nil K Xa v_0 a_0) K (rDf (rV Xa)) v_1 a_1) K Xa v_2 a_2) K Xa v_3 a_3) K (oL (oF Xa)) x7.2.2.1 g8 x7.2.2.2)}:Jn ((List Int)) (Option V×Option V×V×List XH))) (λ_=>tg2 5 6) ((none),(none),v2,C3) (a1) (Fr (Xj (r:=(rDf (rV Xa))) 1 rfl (λ_ s=>s.l.l.l.r))) rfl rfl (λ_ s=>(SC.i (SC.i (SC.i (SC.i (SC.i SC.t s.l.l.l.l.r) s.l.l.l.r) s.l.l.r) s.l.r) s.r)) (λg9 x10 a11 v12=>(Qi (K:=K) (o:=(oF Xa)) 4 0 rfl rfl (λ_ s=>s.l.l.r) (EvS.ev (EvB.sh (XO (ZS (XE (Xb (r:=(rV Xa)) 6 rfl (λ_ s=>s.r)) (Xb (r:=Xa) 0 rfl (λ_ s=>s.l.l.l.l.l.l.r)))) (Xb (r:=Xa) 3 rfl (λ_ s=>s.l.l.l.r))))) (λ_=>(Xb (r:=Xa) 5 rfl (λ_ s=>s.l.r))) λa20 C21=>(Xu (J:=_) ((some v12.1),(some v12.2),x10.2.2.1,C21) (a20) rfl rfl (λ_ s=>(SC.i (SC.i (SC.i (SC.i (SC.i SC.t s.l.l.l.l.l.l.l.r) s.l.l.l.l.l.l.r) s.l.l.l.l.l.r) s.l.l.l.l.r) s.r))))) λg22 x23=>(XB (Yd (o:=(oL (oF Xa))) 4 0 rfl rfl (λ_ s=>s.r)))))
theorem Qc:FnScope ["drawing","prime","factor","count","rows","tied","frees","basis"] ["drawing","prime","factor"] (Xi QZ):=⟨rfl,rfl,rfl,by decide+kernel,rfl,by decide+kernel,by decide+kernel⟩
theorem Bb (D:Def K mg "solved" QZ ["drawing","prime","factor"])(g_arc_count:Fn P w K mg base 2 "arc_count" ["drawing"] (sp1 (rP2 (rV (rV Xa)) (rV (rP2 Xa Xa))) (oF Xa) Yy K))(g_led_rows:Fn P w K mg base 2 "led_rows" ["rows","count","prime"] (sp3 (rV (rV Xa)) Xa Xa (oL (oT2 (oF Xa) (oL (oF Xa)))) ZM K))(g_with_factors:Fn P w K mg base 2 "with_factors" ["rows"] (sp1 (rV (rV Xa)) (oL (oL (oF Xa))) YQ K))(g_colouring_of:Fn P w K mg base 2 "colouring_of" ["free","tied","count","prime"] (sp4 Xa (rDf (rV Xa)) Xa Xa (oL (oF Xa)) YS K))(g_equations:Fn P w K mg base 6 "equations" ["drawing","prime","factor"] (sp3 (rP2 (rV (rV Xa)) (rV (rP2 Xa Xa))) Xa Xa (oL (oL (oF Xa))) Y2 K))(Z:Blt mg):Fn P w K mg base 7 "solved" ["drawing","prime","factor"] (sp3 (rP2 (rV (rV Xa)) (rV (rP2 Xa Xa))) Xa Xa (oT3 (oL (oF Xa)) (oL (oL (oF Xa))) (oL (oT2 (oF Xa) (oL (oF Xa))))) Z0 K):=by
 refine Yf D Qc (λvs H Q E h=>?_) (λf cdv A outer s H vs Q E hr h=>?_)
 ·obtain⟨v_0,v_1,v_2,a_0,a_1,a_2,b,rfl,_⟩:=h;rfl
 obtain⟨v_0,v_1,v_2,a_0,a_1,a_2,b,rfl,h_0,h_1,h_2,hm,q⟩:=h
 have hu:=hu8 hr
 have hu1:=Yb hr
 refine⟨_,(Xc (Xm (i:=3) Qc.nd rfl (Or.inr rfl) (XN g_arc_count hr (by decide) (Xd (pv 0) Xe)))
  (Xc (Xm (i:=4) Qc.nd rfl (Or.inl rfl) (XN g_led_rows hr (by decide) (Xd (XN g_with_factors hr (by decide) (Xd (XN g_equations hr (by decide) (Xd (pv 0) (Xd (pv 1) (Xd (pv 2) Xe)))) Xe)) (Xd (pv 3) (Xd (pv 1) Xe)))))
  (Xc (Xm (i:=5) Qc.nd rfl (Or.inr rfl) (JJ (KP K rfl rfl) rfl Z.b_dict PyProof.Rows.boot_dict (Xd (pv 4) Xe)))
  (Xc (J3 6 (Xi QZ) ["drawing","prime","factor","count","rows","tied","frees","basis"] ["arc"] [(5,"tied")] rfl Qc.nd rfl rfl (XR rfl Z.b_range (Xd (pv 3) Xe)) (YL (by decide)) (λcl C s H ex E=>⟨Xl (i:=0) (show List.Nodup (["arc","tied"]:List Str) by decide+kernel) rfl (Or.inl rfl),(JU (ME (CC hu1 (pv 0) (pv 1)))),(pv 0)⟩))
  (Xc (J3 7 (Xi QZ) ["drawing","prime","factor","count","rows","tied","frees","basis"] ["free"] [(5,"tied"),(3,"count"),(1,"prime")] rfl Qc.nd rfl rfl (XG (K:=K) rfl (pv 6)) (YL (by decide)) (λcl C s H ex E=>⟨Xl (i:=0) (show List.Nodup (["free","tied","count","prime"]:List Str) by decide+kernel) rfl (Or.inl rfl),YD,(N4 1 (XN g_colouring_of hr (by decide) (Xd (pv 0) (Xd (pv 1) (Xd (pv 2) (Xd (pv 3) Xe))))))⟩))
  (Xc (XC (ZF (Xd (pv 6) (Xd (pv 7) (Xd (Yp (sc:=(Xi QZ)) (N0:=["drawing","prime","factor","count","rows","tied","frees","basis"]) (tns:=["arc","row"]) (caps:=[(3,"count")]) rfl (XG (K:=K) rfl (pv 4)) (JQ (by decide) (by decide)) (λcl C s H ex E=>⟨Jd K rfl rfl (Xs (Xl (i:=0) (show List.Nodup (["arc","row","count"]:List Str) by decide+kernel) rfl (Or.inl rfl)) (Xs (Xl (i:=1) (show List.Nodup (["arc","row","count"]:List Str) by decide+kernel) rfl (Or.inl rfl)) Y6)),YD,(ZF (Xd (pv 0) (Xd (Ke (Ku K rfl) (pv 1) (G7 (pv 2)) Ff) Xe)))⟩)) Xe)))))
  Xf)))))),?_⟩
 refine Yk (S:=(SC.add (SC.add (SC.add SC.nil K (rP2 (rV (rV Xa)) (rV (rP2 Xa Xa))) v_0 a_0) K Xa v_1 a_1) K Xa v_2 a_2)) (σ:=[some v_0,some v_1,some v_2,none,none,none,none,none]) 3 ?_ (SC.i (SC.i (SC.i SC.t h_0) h_1) h_2) hm q rfl
 unfold Z0
 exact(Xp (K:=K) (r:=Xa) 3 (EvB.sh (Ev.toB (X3 (Xb (r:=(rP2 (rV (rV Xa)) (rV (rP2 Xa Xa)))) 0 rfl (λ_ s=>s.l.l.r))))) λa1 v2=>(Xp (K:=K) (r:=(rV (rP2 Xa (rV Xa)))) 4 (Ev.sh (Yc (Ev.toB (X3 (Ev.toB (Yc (Xb (r:=(rP2 (rV (rV Xa)) (rV (rP2 Xa Xa)))) 0 rfl (λ_ s=>s.l.l.l.r)) (Xb (r:=Xa) 1 rfl (λ_ s=>s.l.l.r)) (Xb (r:=Xa) 2 rfl (λ_ s=>s.l.r)))))) (Xb (r:=Xa) 3 rfl (λ_ s=>s.r)) (Xb (r:=Xa) 1 rfl (λ_ s=>s.l.l.r)))) λa5 v6=>(XM (K:=K) (o:=(oD (rV Xa))) 5 2 (EU (EvS.ls (Xj (r:=(rV (rP2 Xa (rV Xa)))) 4 rfl (λ_ s=>s.r)))) (Nat.le_of_ble_eq_true rfl) λa17 v18 C19=>(XM (K:=K) (o:=(oL (oF Xa))) 6 0 (QS (λ_=>tg1 0) (XF (Xb (r:=Xa) 3 rfl (λ_ s=>s.l.l.r))) (λC25 a26 v27=>(UD (K:=K) (Ht (Xb (r:=Xa) 0 rfl (λ_ s=>s.r)) (YY (o:=(oD (rV Xa))) 1 3 rfl rfl (λ_ s=>s.l.r))))) (λC25 a26 v27=>(EvS.ev (Xj (r:=Xa) 0 rfl (λ_ s=>s.r))))) (Nat.le_of_ble_eq_true rfl) λa21 v22 C23=>(XM (K:=K) (o:=(oL (oL (oF Xa)))) 7 1 (V0 (K:=K) (o1:=(oL (oF Xa))) 0 rfl (λ_ s=>s.r) (YC (λ_=>tg1 0) (Xt (Xj (r:=(rV Xa)) 6 rfl (λ_ s=>s.r))) (λC34 a35 v36=>(E2 (K:=K) (r:=(rV Xa)) 1 3 rfl rfl (λ_ s=>s.l.l.l.r) (λ_=>Gf) (Q0 (Xb (r:=Xa) 0 rfl (λ_ s=>s.l.r)) (Xb (r:=(rDf (rV Xa))) 1 rfl (λ_ s=>s.r)) (Xb (r:=Xa) 2 rfl (λ_ s=>s.l.l.l.l.l.l.r)) (Xb (r:=Xa) 3 rfl (λ_ s=>s.l.l.l.l.l.l.l.l.r))))))) (Nat.le_of_ble_eq_true rfl) λa31 v32 C33=>(XB (E5 (Yd (o:=(oL (oF Xa))) 6 0 rfl rfl (λ_ s=>s.l.r)) (λ_=>(Yd (o:=(oL (oL (oF Xa)))) 7 2 rfl rfl (λ_ s=>s.r))) λ_ _=>(YC (λ_=>tg2 0 1) (Xt (Xj (r:=(rV (rP2 Xa (rV Xa)))) 4 rfl (λ_ s=>s.l.l.l.r))) (λC44 a45 v46=>(JE (EvS.ev (Xj (r:=Xa) 0 rfl (λ_ s=>s.l.r))) λ_=>(F0 (EvS.ls (Xj (r:=(rV Xa)) 1 rfl (λ_ s=>s.r))) (Kt (K:=K) (Xb (r:=Xa) 2 rfl (λ_ s=>s.l.l.l.l.l.l.r))) Kf)))))))))))
theorem Ze:FnScope ["drawing","prime","factor","number","free"] ["drawing","prime","factor"] (Xi ZV):=⟨rfl,rfl,rfl,by decide+kernel,rfl,by decide+kernel,by decide+kernel⟩
theorem Vt (D:Def K mg "straight_many" ZV ["drawing","prime","factor"])(g_solved:Fn P w K mg base 7 "solved" ["drawing","prime","factor"] (sp3 (rP2 (rV (rV Xa)) (rV (rP2 Xa Xa))) Xa Xa (oT3 (oL (oF Xa)) (oL (oL (oF Xa))) (oL (oT2 (oF Xa) (oL (oF Xa))))) Z0 K))(Z:Blt mg):Fn P w K mg base 8 "straight_many" ["drawing","prime","factor"] (sp3 (rP2 (rV (rV Xa)) (rV (rP2 Xa Xa))) Xa Xa (oF Xa) YI K):=by
 refine Yf D Ze (λvs H Q E h=>?_) (λf cdv A outer s H vs Q E hr h=>?_)
 ·obtain⟨v_0,v_1,v_2,a_0,a_1,a_2,b,rfl,_⟩:=h;rfl
 obtain⟨v_0,v_1,v_2,a_0,a_1,a_2,b,rfl,h_0,h_1,h_2,hm,q⟩:=h
 have hu:=hu8 hr
 have hu1:=Yb hr
 refine⟨_,(Xc (Xm (i:=3) Ze.nd rfl (Or.inl rfl) Xh)
  (Xc (X6 PassesOwn.never rfl (XG (K:=K) rfl (XJ (Y4 K rfl) (XN g_solved hr (by decide) (Xd (pv 0) (Xd (pv 1) (Xd (pv 2) Xe)))) Xh (λ_ _=>rfl))) (Xl (i:=4) Ze.nd rfl (Or.inl rfl))
   (Xc (UM (i:=3) Ze.nd rfl (Or.inl rfl) (pv 1) IB)
   Xf))
  (Xc (XC (pv 3))
  Xf))),?_⟩
 refine Yk (S:=(SC.add (SC.add (SC.add SC.nil K (rP2 (rV (rV Xa)) (rV (rP2 Xa Xa))) v_0 a_0) K Xa v_1 a_1) K Xa v_2 a_2)) (σ:=[some v_0,some v_1,some v_2,none,none]) 0 ?_ (SC.i (SC.i (SC.i SC.t h_0) h_1) h_2) hm q rfl
 unfold YI
 exact(Xp (K:=K) (r:=Xa) 3 (EvB.sh (Xg 1)) λa1 v2=>(Yr (K:=K) (J:=({oo:=λx8=>[],ss:=λx8=>[some v_0,some v_1,some v_2,some x8.2,x8.1],sc:=λg9 x8=>(SC.add (SC.add (SC.add (SC.add SC.nil K (rP2 (rV (rV Xa)) (rV (rP2 Xa Xa))) v_0 a_0) K Xa v_1 a_1) K Xa v_2 a_2) K Xa x8.2 g9)}:Jn (Int) (Option V×V))) (λ_=>tg1 4) ((none),v2) (a1) (Xt (CY (Ev.sh (Yc (Xb (r:=(rP2 (rV (rV Xa)) (rV (rP2 Xa Xa)))) 0 rfl (λ_ s=>s.l.l.l.r)) (Xb (r:=Xa) 1 rfl (λ_ s=>s.l.l.r)) (Xb (r:=Xa) 2 rfl (λ_ s=>s.l.r)))))) rfl rfl (λ_ s=>(SC.i (SC.i (SC.i (SC.i SC.t s.l.l.l.r) s.l.l.r) s.l.r) s.r)) (λg10 x11 a12 v13=>(CZ (K:=K) 3 rfl (λ_ s=>s.l.r) (Xb (r:=Xa) 1 rfl (λ_ s=>s.l.l.l.r)) λa16 v15=>(Xu (J:=_) ((some v13),v15) (a16) rfl rfl (λ_ s=>(SC.i (SC.i (SC.i (SC.i SC.t s.l.l.l.l.l.r) s.l.l.l.l.r) s.l.l.l.r) s.r))))) λg17 x18=>(XB (EvS.ev (Xj (r:=Xa) 3 rfl (λ_ s=>s.r))))))
theorem Yh:FnScope ["factor","size","divisor","rest","left"] ["factor","size"] (Xi ZC):=⟨rfl,rfl,rfl,by decide+kernel,rfl,by decide+kernel,by decide+kernel⟩
theorem JZ (D:Def K mg "common_divisor" ZC ["factor","size"])(Z:Blt mg):Fn P w K mg base 1 "common_divisor" ["factor","size"] (sp2 Xa Xa (oF Xa) Yu K):=by
 refine Yf D Yh (λvs H Q E h=>?_) (λf cdv A outer s H vs Q E hr h=>?_)
 ·obtain⟨v_0,v_1,a_0,a_1,b,rfl,_⟩:=h;rfl
 obtain⟨v_0,v_1,a_0,a_1,b,rfl,h_0,h_1,hm,q⟩:=h
 have hu:=hu8 hr
 have hu1:=Yb hr
 refine⟨_,(Xc (Xm (i:=2) Yh.nd rfl (Or.inl rfl) (pv 1))
  (Xc (Xm (i:=3) Yh.nd rfl (Or.inl rfl) (Xq Ya (pv 0) (pv 1)))
  (Xc (VJ PassesOwn.never (XI Dz (pv 3) Xh (XW _))
   (Xc (Xm (i:=4) Yh.nd rfl (Or.inl rfl) (Xq Ya (pv 2) (pv 3)))
   (Xc (Xm (i:=2) Yh.nd rfl (Or.inl rfl) (pv 3))
   (Xc (Xm (i:=3) Yh.nd rfl (Or.inl rfl) (pv 4))
   Xf))))
  (Xc (XC (pv 2))
  Xf)))),?_⟩
 refine Yk (S:=(SC.add (SC.add SC.nil K Xa v_0 a_0) K Xa v_1 a_1)) (σ:=[some v_0,some v_1,none,none,none]) 0 ?_ (SC.i (SC.i SC.t h_0) h_1) hm q rfl
 unfold Yu
 exact(Xp (K:=K) (r:=Xa) 2 (Xj (r:=Xa) 1 rfl (λ_ s=>s.r)) λa1 v2=>(Xp (K:=K) (r:=Xa) 3 (EvB.sh (XO (Xb (r:=Xa) 0 rfl (λ_ s=>s.l.l.r)) (Xb (r:=Xa) 1 rfl (λ_ s=>s.l.r)))) λa3 v4=>(Kz (J:=({oo:=λx7=>[],ss:=λx7=>[some v_0,some v_1,some x7.2.1,some x7.2.2,x7.1],sc:=λg8 x7=>(SC.add (SC.add (SC.add (SC.add SC.nil K Xa v_0 a_0) K Xa v_1 a_1) K Xa x7.2.1 g8.1) K Xa x7.2.2 g8.2)}:Jn (Int×Int) (Option V×V×V))) (a_1.natAbs+2) ((none),v2,v4) (a1,a3) rfl rfl (λ_ s=>(SC.i (SC.i (SC.i (SC.i SC.t s.l.l.l.r) s.l.l.r) s.l.r) s.r)) (λg9 x10=>(Xv (K:=K) (UL (Xb (r:=Xa) 3 rfl (λ_ s=>s.r)) (Xg 0)))) (λg9 x10=>(Xp (K:=K) (r:=Xa) 4 (EvB.sh (XO (Xb (r:=Xa) 2 rfl (λ_ s=>s.l.r)) (Xb (r:=Xa) 3 rfl (λ_ s=>s.r)))) λa13 v14=>(Xp (K:=K) (r:=Xa) 2 (Xj (r:=Xa) 3 rfl (λ_ s=>s.l.r)) λa17 v18=>(Xp (K:=K) (r:=Xa) 3 (Xj (r:=Xa) 4 rfl (λ_ s=>s.l.r)) λa19 v20=>(Xu (J:=_) ((some v14),v18,v20) (a17,a19) rfl rfl (λ_ s=>(SC.i (SC.i (SC.i (SC.i SC.t s.l.l.l.l.l.l.r) s.l.l.l.l.l.r) s.l.r) s.r))))))) λg21 x22=>(XB (EvS.ev (Xj (r:=Xa) 2 rfl (λ_ s=>s.l.r)))))))
theorem Cv:FnScope ["size","factor"] ["size","factor"] (Xi JG):=⟨rfl,rfl,rfl,by decide+kernel,rfl,by decide+kernel,by decide+kernel⟩
theorem CU (D:Def K mg "scaled" JG ["size","factor"])(g_refuse_above:Fn P w K mg base 1 "refuse_above" ["most","size"] (sp2 Xa Xa oU YT K))(g_common_divisor:Fn P w K mg base 1 "common_divisor" ["factor","size"] (sp2 Xa Xa (oF Xa) Yu K))(Z:Blt mg):Fn P w K mg base 2 "scaled" ["size","factor"] (sp2 Xa Xa (oL (oL (oF Xa))) QN K):=by
 refine Yf D Cv (λvs H Q E h=>?_) (λf cdv A outer s H vs Q E hr h=>?_)
 ·obtain⟨v_0,v_1,a_0,a_1,b,rfl,_⟩:=h;rfl
 obtain⟨v_0,v_1,a_0,a_1,b,rfl,h_0,h_1,hm,q⟩:=h
 have hu:=hu8 hr
 have hu1:=Yb hr
 refine⟨_,(Xc (Yl (XN g_refuse_above hr (by decide) (Xd (EJ Z.c_MOST_COLOURS rfl) (Xd (pv 0) Xe))))
  (Xc (Zb (XI K8 (XN g_common_divisor hr (by decide) (Xd (pv 1) (Xd (pv 0) Xe))) Xh (XW _))
   (Xc QT
   Xf)
   Xf)
  (Xc (XC (F6 (sc:=(Xi JG)) (N0:=["size","factor"]) (tns:=["a"]) (caps:=[(1,"factor"),(0,"size")]) rfl (XR rfl Z.b_range (Xd (pv 0) Xe)) (YL (by decide)) (λcl C s H ex E=>⟨Xl (i:=0) (show List.Nodup (["a","factor","size"]:List Str) by decide+kernel) rfl (Or.inr rfl) (hf:=Or.inl rfl),YD,(F6 (sc:=(Oe BE (Xi JG))) (N0:=["a","factor","size"]) (tns:=["b"]) (caps:=[(1,"factor"),(0,"a"),(2,"size")]) rfl (XR rfl Z.b_range (Xd (pv 2) Xe)) (YL (by decide)) (λcl C s H ex E=>⟨Xl (i:=0) (show List.Nodup (["b","factor","a","size"]:List Str) by decide+kernel) rfl (Or.inl rfl),YD,(Xq Ya (Xq X9 (Xq Yz (pv 1) (pv 2)) (Xq Yz (Xq JL Xh (pv 1)) (pv 0))) (pv 3))⟩))⟩)))
  Xf))),?_⟩
 refine Yk (S:=(SC.add (SC.add SC.nil K Xa v_0 a_0) K Xa v_1 a_1)) (σ:=[some v_0,some v_1]) 0 ?_ (SC.i (SC.i SC.t h_0) h_1) hm q rfl
 unfold QN
 exact(GN (Ev.toB (XT (Xg 24) (Xb (r:=Xa) 0 rfl (λ_ s=>s.l.r)))) (Q6 (Xv (K:=K) (Vj (Ev.toB (XT (Xb (r:=Xa) 1 rfl (λ_ s=>s.r)) (Xb (r:=Xa) 0 rfl (λ_ s=>s.l.r)))) (Xg 1))) Is (XB (YC (λ_=>tg1 0) (XF (Xb (r:=Xa) 0 rfl (λ_ s=>s.l.r))) (λC12 a13 v14=>(YC (λ_=>tg1 0) (XF (Xb (r:=Xa) 2 rfl (λ_ s=>s.l.l.r))) (λC17 a18 v19=>(EvS.ev (EvB.sh (XO (XQ (XZ (Xb (r:=Xa) 1 rfl (λ_ s=>s.l.l.r)) (Xb (r:=Xa) 2 rfl (λ_ s=>s.l.r))) (XZ (Qn (Xg 1) (Xb (r:=Xa) 1 rfl (λ_ s=>s.l.l.r))) (Xb (r:=Xa) 0 rfl (λ_ s=>s.r)))) (Xb (r:=Xa) 3 rfl (λ_ s=>s.l.l.l.r))))))))))))
theorem KH:FnScope ["_law_script","_law_place","_law_seed","_law_cell_here"] ["_law_script","_law_place"] (Xi Ei):=⟨rfl,rfl,rfl,by decide+kernel,rfl,by decide+kernel,by decide+kernel⟩
theorem IS (D:Def K mg "_law_cell" Ei ["_law_script","_law_place"])(Z:Blt mg):Fn P w K mg base 1 "_law_cell" ["_law_script","_law_place"] (sp2 (rL Xa) Xa (oF Xa) VM K):=by
 refine Yf D KH (λvs H Q E h=>?_) (λf cdv A outer s H vs Q E hr h=>?_)
 ·obtain⟨v_0,v_1,a_0,a_1,b,rfl,_⟩:=h;rfl
 obtain⟨v_0,v_1,a_0,a_1,b,rfl,h_0,h_1,hm,q⟩:=h
 have hu:=hu8 hr
 have hu1:=Yb hr
 refine⟨_,(Xc (Zb (XI Uo (pv 1) (Xy (Xo K rfl) rfl Z.b_len PySem.boot_len (Xd (pv 0) Xe)) (XW _))
   (Xc (XC (XJ (Xn K rfl) (pv 0) (pv 1) (λ_ _=>rfl)))
   Xf)
   Xf)
  (Xc (Xm (i:=2) KH.nd rfl (Or.inl rfl) Xh)
  (Xc (X6 PassesOwn.never rfl (XG (K:=K) rfl (Ke (Ku K rfl) (pv 0) Ff (G7 Xh))) (Xl (i:=3) KH.nd rfl (Or.inl rfl))
   (Xc (Xm (i:=2) KH.nd rfl (Or.inl rfl) (Xq Ya (Xq X9 (Xq X9 (Xq Yz (pv 2) Xh) (Xq Ya (pv 3) Xh)) Xh) Xh))
   Xf))
  (Xc (XC (Xq Ya (Xq X9 (pv 2) (Xq Yz Xh (pv 1))) Xh))
  Xf)))),?_⟩
 refine Yk (S:=(SC.add (SC.add SC.nil K (rL Xa) v_0 a_0) K Xa v_1 a_1)) (σ:=[some v_0,some v_1,none,none]) 0 ?_ (SC.i (SC.i SC.t h_0) h_1) hm q rfl
 unfold VM
 exact(Q6 (Xv (K:=K) (QJ (Xb (r:=Xa) 1 rfl (λ_ s=>s.r)) (HG (Xb (r:=(rL Xa)) 0 rfl (λ_ s=>s.l.r))))) (XB (EvS.ev (EvB.sh (LF (Xb (r:=(rL Xa)) 0 rfl (λ_ s=>s.l.r)) (Xb (r:=Xa) 1 rfl (λ_ s=>s.r)))))) (Xp (K:=K) (r:=Xa) 2 (EvB.sh (Xg 5)) λa7 v8=>(Yr (K:=K) (J:=({oo:=λx13=>[],ss:=λx13=>[some v_0,some v_1,some x13.2,x13.1],sc:=λg14 x13=>(SC.add (SC.add (SC.add SC.nil K (rL Xa) v_0 a_0) K Xa v_1 a_1) K Xa x13.2 g14)}:Jn (Int) (Option V×V))) (λ_=>tg1 3) ((none),v8) (a7) (Xt (Ev.sh (CJ (Xb (r:=(rL Xa)) 0 rfl (λ_ s=>s.l.l.r)) Kf (Kt (K:=K) (Xg 63))))) rfl rfl (λ_ s=>(SC.i (SC.i (SC.i SC.t s.l.l.r) s.l.r) s.r)) (λg15 x16 a17 v18=>(Xp (K:=K) (r:=Xa) 2 (EvB.sh (XO (XQ (XQ (XZ (Xb (r:=Xa) 2 rfl (λ_ s=>s.l.r)) (Xg 48271)) (XO (Xb (r:=Xa) 3 rfl (λ_ s=>s.r)) (Xg 1000003))) (Xg 1)) (Xg 2147483647))) λa19 v20=>(Xu (J:=_) ((some v18),v20) (a19) rfl rfl (λ_ s=>(SC.i (SC.i (SC.i SC.t s.l.l.l.l.r) s.l.l.l.r) s.r))))) λg31 x32=>(XB (EvS.ev (EvB.sh (XO (XQ (Xb (r:=Xa) 2 rfl (λ_ s=>s.r)) (XZ (Xg 7919) (Xb (r:=Xa) 1 rfl (λ_ s=>s.l.r)))) (Xg 1000003))))))))
theorem BL:FnScope ["_law_cell_here","_law_k","_law_one","_law_two"] ["_law_cell_here","_law_k"] (Xi Mm):=⟨rfl,rfl,rfl,by decide+kernel,rfl,by decide+kernel,by decide+kernel⟩
theorem NQ (D:Def K mg "_law_mix" Mm ["_law_cell_here","_law_k"])(Z:Blt mg):Fn P w K mg base 1 "_law_mix" ["_law_cell_here","_law_k"] (sp2 Xa Xa (oF Xa) Fp K):=by
 refine Yf D BL (λvs H Q E h=>?_) (λf cdv A outer s H vs Q E hr h=>?_)
 ·obtain⟨v_0,v_1,a_0,a_1,b,rfl,_⟩:=h;rfl
 obtain⟨v_0,v_1,a_0,a_1,b,rfl,h_0,h_1,hm,q⟩:=h
 have hu:=hu8 hr
 have hu1:=Yb hr
 refine⟨_,(Xc (Xm (i:=2) BL.nd rfl (Or.inl rfl) (Xq Ya (Xq Dd (Xq X9 (Xq X9 (Xq Ya (pv 0) Xh) (Xq Yz Xh (pv 1))) Xh) Xh) Xh))
  (Xc (Xm (i:=3) BL.nd rfl (Or.inl rfl) (Xq Ya (Xq X9 (Xq X9 (Xq Yz (pv 2) Xh) (Xq Yz (Xq Yz Xh (pv 1)) (pv 1))) Xh) Xh))
  (Xc (XC (Xq F3 (pv 3) Xh))
  Xf))),?_⟩
 refine Yk (S:=(SC.add (SC.add SC.nil K Xa v_0 a_0) K Xa v_1 a_1)) (σ:=[some v_0,some v_1,none,none]) 0 ?_ (SC.i (SC.i SC.t h_0) h_1) hm q rfl
 unfold Fp
 exact(Xp (K:=K) (r:=Xa) 2 (EvB.sh (XO (Kw (XQ (XQ (XO (Xb (r:=Xa) 0 rfl (λ_ s=>s.l.r)) (Xg 2147483629)) (XZ (Xg 1013) (Xb (r:=Xa) 1 rfl (λ_ s=>s.r)))) (Xg 7919)) (Xg 3)) (Xg 2147483647))) λa1 v2=>(Xp (K:=K) (r:=Xa) 3 (EvB.sh (XO (XQ (XQ (XZ (Xb (r:=Xa) 2 rfl (λ_ s=>s.r)) (Xg 40699)) (XZ (XZ (Xg 3793) (Xb (r:=Xa) 1 rfl (λ_ s=>s.l.r))) (Xb (r:=Xa) 1 rfl (λ_ s=>s.l.r)))) (Xg 11)) (Xg 2147483399))) λa15 v16=>(XB (EvS.ev (EvB.sh (CV (Xb (r:=Xa) 3 rfl (λ_ s=>s.r)) (Xg 101)))))))
theorem Ul:FnScope ["_law_script","_law_place","_law_sizes","_law_cell_here","_law_left","_law_some","_law_k","_law_other"] ["_law_script","_law_place","_law_sizes"] (Xi Lo):=⟨rfl,rfl,rfl,by decide+kernel,rfl,by decide+kernel,by decide+kernel⟩
theorem MD (D:Def K mg "_law_row" Lo ["_law_script","_law_place","_law_sizes"])(g_cell:Fn P w K mg base 1 "_law_cell" ["_law_script","_law_place"] (sp2 (rL Xa) Xa (oF Xa) VM K))(g_mix:Fn P w K mg base 1 "_law_mix" ["_law_cell_here","_law_k"] (sp2 Xa Xa (oF Xa) Fp K))(Z:Blt mg):Fn P w K mg base 2 "_law_row" ["_law_script","_law_place","_law_sizes"] (sp3 (rL Xa) Xa (rV Xa) (oL (oF Xa)) KS K):=by
 refine Yf D Ul (λvs H Q E h=>?_) (λf cdv A outer s H vs Q E hr h=>?_)
 ·obtain⟨v_0,v_1,v_2,a_0,a_1,a_2,b,rfl,_⟩:=h;rfl
 obtain⟨v_0,v_1,v_2,a_0,a_1,a_2,b,rfl,h_0,h_1,h_2,hm,q⟩:=h
 have hu:=hu8 hr
 have hu1:=Yb hr
 refine⟨_,(Xc (Xm (i:=3) Ul.nd rfl (Or.inl rfl) (XN g_cell hr (by decide) (Xd (pv 0) (Xd (pv 1) Xe))))
  (Xc (Xm (i:=4) Ul.nd rfl (Or.inl rfl) (pv 3))
  (Xc (Xm (i:=5) Ul.nd rfl (Or.inl rfl) (X1 Xe))
  (Xc (X6 PassesOwn.never rfl (XR rfl Z.b_range (Xd (Xy (Xo K rfl) rfl Z.b_len PySem.boot_len (Xd (pv 2) Xe)) Xe)) (Xl (i:=6) Ul.nd rfl (Or.inl rfl))
   (Xc (Zb (XI Uo (pv 3) (Xq Dd Xh Xh) (XW _))
    (Xc (Yl (ZP PySem.F.plainAttrs_list PySem.F.slot_list_append PySem.F.type_list_append XX (pv 5) (Xd (Xq Ya (XN g_mix hr (by decide) (Xd (pv 3) (Xd (pv 6) Xe))) (XJ (Xn K rfl) (pv 2) (pv 6) (λ_ _=>rfl))) Xe)))
    Xf)
    (Xc (Zb (XI K8 (pv 4) Xh (XW _))
     (Xc (Yl (ZP PySem.F.plainAttrs_list PySem.F.slot_list_append PySem.F.type_list_append XX (pv 5) (Xd (Xq Ya (pv 4) (XJ (Xn K rfl) (pv 2) (pv 6) (λ_ _=>rfl))) Xe)))
     (Xc (Xm (i:=4) Ul.nd rfl (Or.inl rfl) (Xq F3 (pv 4) (XJ (Xn K rfl) (pv 2) (pv 6) (λ_ _=>rfl))))
     Xf))
     (Xc (Xm (i:=7) Ul.nd rfl (Or.inl rfl) (XN g_cell hr (by decide) (Xd (pv 0) (Xd (Xq Ya (Xq X9 (Xq X9 (pv 1) Xh) (pv 6)) Xh) Xe))))
     (Xc (Yl (ZP PySem.F.plainAttrs_list PySem.F.slot_list_append PySem.F.type_list_append XX (pv 5) (Xd (Xq Ya (XN g_mix hr (by decide) (Xd (pv 7) (Xd (pv 6) Xe))) (XJ (Xn K rfl) (pv 2) (pv 6) (λ_ _=>rfl))) Xe)))
     Xf)))
    Xf))
   Xf))
  (Xc (XC (pv 5))
  Xf))))),?_⟩
 refine Yk (S:=(SC.add (SC.add (SC.add SC.nil K (rL Xa) v_0 a_0) K Xa v_1 a_1) K (rV Xa) v_2 a_2)) (σ:=[some v_0,some v_1,some v_2,none,none,none,none,none]) 1 ?_ (SC.i (SC.i (SC.i SC.t h_0) h_1) h_2) hm q rfl
 unfold KS
 exact(Xp (K:=K) (r:=Xa) 3 (EvB.sh (Ev.toB (XT (Xb (r:=(rL Xa)) 0 rfl (λ_ s=>s.l.l.r)) (Xb (r:=Xa) 1 rfl (λ_ s=>s.l.r))))) λa1 v2=>(Xp (K:=K) (r:=Xa) 4 (Xj (r:=Xa) 3 rfl (λ_ s=>s.r)) λa6 v7=>(XM (K:=K) (o:=(oL (oF Xa))) 5 0 (Qt (o:=(oF Xa))) (Nat.le_of_ble_eq_true rfl) λa8 v9 C10=>(Yr (K:=K) (J:=({oo:=λx13=>[x13.2.2.2.2],ss:=λx13=>[some v_0,some v_1,some v_2,some v2,some x13.2.2.1,some x13.2.1,x13.1,x13.2.2.2.1],sc:=λg14 x13=>(SC.add (SC.addO (SC.add (SC.add (SC.add (SC.add SC.nil K (rL Xa) v_0 a_0) K Xa v_1 a_1) K (rV Xa) v_2 a_2) K Xa v2 a1) K (oL (oF Xa)) x13.2.1 g14.1 x13.2.2.2.2) K Xa x13.2.2.1 g14.2)}:Jn ((List Int)×Int) (Option V×V×V×Option V×List XH))) (λ_=>tg1 6) ((none),v9,v7,(none),C10) (a8,a6) (XF (Ym (Xb (r:=(rV Xa)) 2 rfl (λ_ s=>s.l.l.l.r)))) rfl rfl (λ_ s=>(SC.i (SC.i (SC.i (SC.i (SC.i (SC.i SC.t s.l.l.l.l.l.r) s.l.l.l.l.r) s.l.l.l.r) s.l.l.r) s.r) s.l.r)) (λg15 x16 a17 v18=>(Zl (J:=({oo:=λx24=>[x24.2.2.2],ss:=λx24=>[some v_0,some v_1,some v_2,some v2,some x24.2.1,some x24.1,some v18,x24.2.2.1],sc:=λg25 x24=>(SC.add (SC.addO (SC.add (SC.add (SC.add (SC.add (SC.add SC.nil K (rL Xa) v_0 a_0) K Xa v_1 a_1) K (rV Xa) v_2 a_2) K Xa v2 a1) K Xa v18 a17) K (oL (oF Xa)) x24.1 g25.1 x24.2.2.2) K Xa x24.2.1 g25.2)}:Jn ((List Int)×Int) (V×V×Option V×List XH))) (Z1 (Fd:=FNd ({oo:=λx24=>[x24.2.2.2],ss:=λx24=>[some v_0,some v_1,some v_2,some v2,some x24.2.1,some x24.1,some v18,x24.2.2.1],sc:=λg25 x24=>(SC.add (SC.addO (SC.add (SC.add (SC.add (SC.add (SC.add SC.nil K (rL Xa) v_0 a_0) K Xa v_1 a_1) K (rV Xa) v_2 a_2) K Xa v2 a1) K Xa v18 a17) K (oL (oF Xa)) x24.1 g25.1 x24.2.2.2) K Xa x24.2.1 g25.2)}:Jn ((List Int)×Int) (V×V×Option V×List XH))) (Xv (K:=K) (QJ (Xb (r:=Xa) 3 rfl (λ_ s=>s.l.l.l.r)) (Kw (Xg 10) (Xg 18)))) (Zy (K:=K) (o:=(oF Xa)) (f:=λa35=>(Rs.ok (a35,g15.2))) 5 0 rfl rfl rfl (λ_ s=>s.l.l.r) (EvS.ev (EvB.sh (XO (Ev.toB (XT (Xb (r:=Xa) 3 rfl (λ_ s=>s.l.l.l.r)) (Xb (r:=Xa) 6 rfl (λ_ s=>s.r)))) (XE (Xb (r:=(rV Xa)) 2 rfl (λ_ s=>s.l.l.l.l.r)) (Xb (r:=Xa) 6 rfl (λ_ s=>s.r)))))) λa33 C34=>(Xu (J:=_) (x16.2.1,x16.2.2.1,(x16.2.2.2.1),C34) ((g15.1++[a33]),g15.2) rfl rfl (λ_ s=>(SC.i (SC.i (SC.i (SC.i (SC.i (SC.i (SC.i SC.t s.l.l.l.l.l.l.l.r) s.l.l.l.l.l.l.r) s.l.l.l.l.l.r) s.l.l.l.l.r) s.l.r) s.r) s.l.l.r)))) (Zl (J:=({oo:=λx39=>[x39.2.2.2],ss:=λx39=>[some v_0,some v_1,some v_2,some v2,some x39.1,some x39.2.2.1,some v18,x39.2.1],sc:=λg40 x39=>(SC.addO (SC.add (SC.add (SC.add (SC.add (SC.add (SC.add SC.nil K (rL Xa) v_0 a_0) K Xa v_1 a_1) K (rV Xa) v_2 a_2) K Xa v2 a1) K Xa v18 a17) K Xa x39.1 g40.1) K (oL (oF Xa)) x39.2.2.1 g40.2 x39.2.2.2)}:Jn (Int×(List Int)) (V×Option V×V×List XH))) (Z1 (Fd:=FNd ({oo:=λx39=>[x39.2.2.2],ss:=λx39=>[some v_0,some v_1,some v_2,some v2,some x39.1,some x39.2.2.1,some v18,x39.2.1],sc:=λg40 x39=>(SC.addO (SC.add (SC.add (SC.add (SC.add (SC.add (SC.add SC.nil K (rL Xa) v_0 a_0) K Xa v_1 a_1) K (rV Xa) v_2 a_2) K Xa v2 a1) K Xa v18 a17) K Xa x39.1 g40.1) K (oL (oF Xa)) x39.2.2.1 g40.2 x39.2.2.2)}:Jn (Int×(List Int)) (V×Option V×V×List XH))) (Xv (K:=K) (Vj (Xb (r:=Xa) 4 rfl (λ_ s=>s.l.r)) (Xg 0))) (Zy (K:=K) (o:=(oF Xa)) (f:=λa47=>(Rs.bind (Rs.bind (Rs.ok g15.2) λx52=>(Rs.bind (Rs.bind (Rs.ok a_2) λx50=>(Rs.bind (Rs.ok a17) λx51=>(atR x50 x51))) λx53=>(Nk x52 x53))) λa48=>(Rs.ok (a48,a47)))) 5 0 rfl rfl rfl (λ_ s=>s.l.l.r) (EvS.ev (EvB.sh (XO (Xb (r:=Xa) 4 rfl (λ_ s=>s.l.r)) (XE (Xb (r:=(rV Xa)) 2 rfl (λ_ s=>s.l.l.l.l.r)) (Xb (r:=Xa) 6 rfl (λ_ s=>s.r)))))) λa45 C46=>(Xp (K:=K) (r:=Xa) 4 (EvB.sh (CV (Xb (r:=Xa) 4 rfl (λ_ s=>s.l.l.r)) (XE (Xb (r:=(rV Xa)) 2 rfl (λ_ s=>s.l.l.l.l.l.r)) (Xb (r:=Xa) 6 rfl (λ_ s=>s.l.r))))) λa48 v49=>(Xu (J:=_) (v49,(x16.2.2.2.1),x16.2.1,C46) (a48,(g15.1++[a45])) rfl rfl (λ_ s=>(SC.i (SC.i (SC.i (SC.i (SC.i (SC.i (SC.i SC.t s.l.l.l.l.l.l.l.l.r) s.l.l.l.l.l.l.l.r) s.l.l.l.l.l.l.r) s.l.l.l.l.l.r) s.l.l.r) s.r) s.l.r))))) (Xp (K:=K) (r:=Xa) 7 (EvB.sh (Ev.toB (XT (Xb (r:=(rL Xa)) 0 rfl (λ_ s=>s.l.l.l.l.l.l.r)) (XO (XQ (XQ (Xb (r:=Xa) 1 rfl (λ_ s=>s.l.l.l.l.l.r)) (Xg 1)) (Xb (r:=Xa) 6 rfl (λ_ s=>s.r))) (Xg 63))))) λa54 v55=>(Zy (K:=K) (o:=(oF Xa)) (f:=λa74=>(Rs.ok (g15.2,a74))) 5 0 rfl rfl rfl (λ_ s=>s.l.l.l.r) (EvS.ev (EvB.sh (XO (Ev.toB (XT (Xb (r:=Xa) 7 rfl (λ_ s=>s.r)) (Xb (r:=Xa) 6 rfl (λ_ s=>s.l.r)))) (XE (Xb (r:=(rV Xa)) 2 rfl (λ_ s=>s.l.l.l.l.l.r)) (Xb (r:=Xa) 6 rfl (λ_ s=>s.l.r)))))) λa72 C73=>(Xu (J:=_) (x16.2.2.1,(some v55),x16.2.1,C73) (g15.2,(g15.1++[a72])) rfl rfl (λ_ s=>(SC.i (SC.i (SC.i (SC.i (SC.i (SC.i (SC.i SC.t s.l.l.l.l.l.l.l.l.r) s.l.l.l.l.l.l.l.r) s.l.l.l.l.l.l.r) s.l.l.l.l.l.r) s.l.l.r) s.l.l.l.r) s.r)))))) λg76 x75=>(Xu (J:=_) (x75.2.2.1,x75.1,(x75.2.1),x75.2.2.2) (g76.2,g76.1) rfl rfl (λ_ s=>(SC.i (SC.i (SC.i (SC.i (SC.i (SC.i (SC.i SC.t s.l.l.l.l.l.l.r) s.l.l.l.l.l.r) s.l.l.l.l.r) s.l.l.l.r) s.l.l.r) s.r) s.l.r))))) λg78 x77=>(Xu (J:=_) ((some v18),x77.1,x77.2.1,(x77.2.2.1),x77.2.2.2) (g78.1,g78.2) rfl rfl (λ_ s=>(SC.i (SC.i (SC.i (SC.i (SC.i (SC.i SC.t s.l.l.l.l.l.l.r) s.l.l.l.l.l.r) s.l.l.l.l.r) s.l.l.l.r) s.l.r) s.r))))) λg79 x80=>(XB (Yd (o:=(oL (oF Xa))) 5 0 rfl rfl (λ_ s=>s.l.r)))))))
theorem VG:FnScope ["_law_names","_law_some","_law_left","_law_found","_law_k"] ["_law_names","_law_some"] (Xi GV):=⟨rfl,rfl,rfl,by decide+kernel,rfl,by decide+kernel,by decide+kernel⟩
theorem Hi (D:Def K mg "_law_mixed" GV ["_law_names","_law_some"])(Z:Blt mg):Fn P w K mg base 1 "_law_mixed" ["_law_names","_law_some"] (sp2 (rV Xa) (rV Xa) (oL (oF Xa)) J1 K):=by
 refine Yf D VG (λvs H Q E h=>?_) (λf cdv A outer s H vs Q E hr h=>?_)
 ·obtain⟨v_0,v_1,a_0,a_1,b,rfl,_⟩:=h;rfl
 obtain⟨v_0,v_1,a_0,a_1,b,rfl,h_0,h_1,hm,q⟩:=h
 have hu:=hu8 hr
 have hu1:=Yb hr
 refine⟨_,(Xc (Xm (i:=2) VG.nd rfl (Or.inl rfl) (JJ (Qw K rfl) rfl Z.b_list PyProof.Rows.boot_list (Xd (pv 0) Xe)))
  (Xc (Xm (i:=3) VG.nd rfl (Or.inl rfl) (X1 Xe))
  (Xc (X6 PassesOwn.never rfl (XR rfl Z.b_range (Xd (Xy (Xo K rfl) rfl Z.b_len PySem.boot_len (Xd (pv 0) Xe)) Xe)) (Xl (i:=4) VG.nd rfl (Or.inl rfl))
   (Xc (Yl (ZP PySem.F.plainAttrs_list PySem.F.slot_list_append PySem.F.type_list_append XX (pv 3) (Xd (ZP PySem.F.plainAttrs_list PySem.F.slot_list_pop PySem.F.type_list_pop F8 (pv 2) (Xd (Xq Ya (XJ (Xn K rfl) (pv 1) (Xq X9 (Xq Yz Xh (pv 4)) Xh) (λ_ _=>rfl)) (Xy (Xo K rfl) rfl Z.b_len PySem.boot_len (Xd (pv 2) Xe))) Xe)) Xe)))
   Xf))
  (Xc (XC (pv 3))
  Xf)))),?_⟩
 refine Yk (S:=(SC.add (SC.add SC.nil K (rV Xa) v_0 a_0) K (rV Xa) v_1 a_1)) (σ:=[some v_0,some v_1,none,none,none]) 2 ?_ (SC.i (SC.i SC.t h_0) h_1) hm q rfl
 unfold J1
 exact(XM (K:=K) (o:=(oL (oF Xa))) 2 1 (GO (EvS.ls (Xj (r:=(rV Xa)) 0 rfl (λ_ s=>s.l.r)))) (Nat.le_of_ble_eq_true rfl) λa1 v2 C3=>(XM (K:=K) (o:=(oL (oF Xa))) 3 0 (Qt (o:=(oF Xa))) (Nat.le_of_ble_eq_true rfl) λa5 v6 C7=>(Yr (K:=K) (J:=({oo:=λx10=>[x10.2.2.2.1,x10.2.2.2.2],ss:=λx10=>[some v_0,some v_1,some x10.2.2.1,some x10.2.1,x10.1],sc:=λg11 x10=>(SC.addO (SC.addO (SC.add (SC.add SC.nil K (rV Xa) v_0 a_0) K (rV Xa) v_1 a_1) K (oL (oF Xa)) x10.2.1 g11.1 x10.2.2.2.1) K (oL (oF Xa)) x10.2.2.1 g11.2 x10.2.2.2.2)}:Jn ((List Int)×(List Int)) (Option V×V×V×List XH×List XH))) (λ_=>tg1 4) ((none),v6,v2,C7,C3) (a5,a1) (XF (Ym (Xb (r:=(rV Xa)) 0 rfl (λ_ s=>s.l.l.l.r)))) rfl rfl (λ_ s=>(SC.i (SC.i (SC.i (SC.i SC.t s.l.l.l.r) s.l.l.r) s.r) s.l.r)) (λg12 x13 a14 v15=>(E8 (K:=K) (r:=Xa) (f:=λa26 a27=>(Rs.ok (a27,a26))) 2 1 3 0 (by decide) rfl rfl (λ_ s=>s.l.r) rfl rfl (λ_ s=>s.l.l.r) (XO (XE (Xb (r:=(rV Xa)) 1 rfl (λ_ s=>s.l.l.l.r)) (XQ (XZ (Xg 8) (Xb (r:=Xa) 4 rfl (λ_ s=>s.r))) (Xg 9))) (Ym (YY (o:=(oL (oF Xa))) 2 1 rfl rfl (λ_ s=>s.l.r)))) λa25 a26 C28 C29=>(Xu (J:=_) ((some v15),x13.2.1,x13.2.2.1,C29,C28) ((g12.1++[a25]),a26) rfl rfl (λ_ s=>(SC.i (SC.i (SC.i (SC.i SC.t s.l.l.l.l.l.l.r) s.l.l.l.l.l.r) s.r) s.l.r))))) λg32 x33=>(XB (Yd (o:=(oL (oF Xa))) 3 0 rfl rfl (λ_ s=>s.l.r))))))
theorem Ua:FnScope ["_law_names","_law_some","_law_rings","_law_left","_law_one","_law_walks","_law_k","_law_at","_law_passage"] ["_law_names","_law_some","_law_rings"] (Xi HM):=⟨rfl,rfl,rfl,by decide+kernel,rfl,by decide+kernel,by decide+kernel⟩
theorem Nw (D:Def K mg "_law_any" HM ["_law_names","_law_some","_law_rings"])(Z:Blt mg):Fn P w K mg base 1 "_law_any" ["_law_names","_law_some","_law_rings"] (sp3 (rV Xa) (rV Xa) Xa (oL (oL (oF Xa))) DF K):=by
 refine Yf D Ua (λvs H Q E h=>?_) (λf cdv A outer s H vs Q E hr h=>?_)
 ·obtain⟨v_0,v_1,v_2,a_0,a_1,a_2,b,rfl,_⟩:=h;rfl
 obtain⟨v_0,v_1,v_2,a_0,a_1,a_2,b,rfl,h_0,h_1,h_2,hm,q⟩:=h
 have hu:=hu8 hr
 have hu1:=Yb hr
 refine⟨_,(Xc (Xm (i:=3) Ua.nd rfl (Or.inl rfl) (X1 Xe))
  (Xc (X6 PassesOwn.never rfl (XG (K:=K) rfl (pv 0)) (Xl (i:=4) Ua.nd rfl (Or.inl rfl))
   (Xc (Yl (ZP PySem.F.plainAttrs_list PySem.F.slot_list_extend PySem.F.type_list_extend El (pv 3) (Xd (X1 (Xd (pv 4) (Xd (Up QG (pv 4)) Xe))) Xe Jx)))
   Xf))
  (Xc (J3 5 (Xi HM) ["_law_names","_law_some","_law_rings","_law_left","_law_one","_law_walks","_law_k","_law_at","_law_passage"] ["_law_k"] [] rfl Ua.nd rfl rfl (XR rfl Z.b_range (Xd (pv 2) Xe)) (YL (by decide)) (λcl C s H ex E=>⟨Xl (i:=0) (show List.Nodup (["_law_k"]:List Str) by decide+kernel) rfl (Or.inl rfl),YD,(X1 Xe)⟩))
  (Xc (X6 PassesOwn.never rfl (XR rfl Z.b_range (Xd (Xq Yz Xh (Xy (Xo K rfl) rfl Z.b_len PySem.boot_len (Xd (pv 0) Xe))) Xe)) (Xl (i:=6) Ua.nd rfl (Or.inl rfl))
   (Xc (Xm (i:=7) Ua.nd rfl (Or.inl rfl) (Xq X9 (Xq Yz Xh (pv 6)) Xh))
   (Xc (Xm (i:=8) Ua.nd rfl (Or.inl rfl) (ZP PySem.F.plainAttrs_list PySem.F.slot_list_pop PySem.F.type_list_pop F8 (pv 3) (Xd (Xq Ya (XJ (Xn K rfl) (pv 1) (pv 7) (λ_ _=>rfl)) (Xy (Xo K rfl) rfl Z.b_len PySem.boot_len (Xd (pv 3) Xe))) Xe)))
   (Xc (Yl (ZP PySem.F.plainAttrs_list PySem.F.slot_list_append PySem.F.type_list_append XX (XJ (Xn K rfl) (pv 5) (Xq Ya (XJ (Xn K rfl) (pv 1) (Xq X9 (pv 7) Xh) (λ_ _=>rfl)) (pv 2)) (λ_ _=>rfl)) (Xd (pv 8) Xe)))
   Xf))))
  (Xc (XC (pv 5))
  Xf))))),?_⟩
 refine Yk (S:=(SC.add (SC.add (SC.add SC.nil K (rV Xa) v_0 a_0) K (rV Xa) v_1 a_1) K Xa v_2 a_2)) (σ:=[some v_0,some v_1,some v_2,none,none,none,none,none,none]) 2 ?_ (SC.i (SC.i (SC.i SC.t h_0) h_1) h_2) hm q rfl
 unfold DF
 exact(XM (K:=K) (o:=(oL (oF Xa))) 3 1 (Qt (o:=(oF Xa))) (Nat.le_of_ble_eq_true rfl) λa1 v2 C3=>(Yr (K:=K) (J:=({oo:=λx4=>[[],x4.2.2],ss:=λx4=>[some v_0,some v_1,some v_2,some x4.2.1,x4.1,none,none,none,none],sc:=λg5 x4=>(SC.addO (SC.add (SC.add (SC.add SC.nil K (rV Xa) v_0 a_0) K (rV Xa) v_1 a_1) K Xa v_2 a_2) K (oL (oF Xa)) x4.2.1 g5 x4.2.2)}:Jn ((List Int)) (Option V×V×List XH))) (λ_=>tg1 4) ((none),v2,C3) (a1) (Xt (Xj (r:=(rV Xa)) 0 rfl (λ_ s=>s.l.l.l.r))) rfl rfl (λ_ s=>(SC.i (SC.i (SC.i (SC.i SC.t s.l.l.l.r) s.l.l.r) s.l.r) s.r)) (λg6 x7 a8 v9=>(Nr (K:=K) (o:=(oF Xa)) (f:=λa18=>(Rs.ok (a18))) 3 1 rfl rfl rfl (λ_ s=>s.l.r) (ZR (Xw (Xj (r:=Xa) 4 rfl (λ_ s=>s.r)) (Xw (EvB.sh (ZS (Xb (r:=Xa) 4 rfl (λ_ s=>s.r)))) Zf))) λa16 C17=>(Xu (J:=_) ((some v9),x7.2.1,C17) ((g6++a16)) rfl rfl (λ_ s=>(SC.i (SC.i (SC.i (SC.i SC.t s.l.l.l.l.l.r) s.l.l.l.l.r) s.l.l.l.r) s.r))))) λg19 x20=>(XM (K:=K) (o:=(oL (oL (oF Xa)))) 5 0 (YC (λ_=>tg1 0) (XF (Xb (r:=Xa) 2 rfl (λ_ s=>s.l.r))) (λC25 a26 v27=>(Qt (o:=(oF Xa))))) (Nat.le_of_ble_eq_true rfl) λa21 v22 C23=>(Yr (K:=K) (J:=({oo:=λx33=>[x33.2.2.2.2.2.2,x33.2.2.2.2.2.1],ss:=λx33=>[some v_0,some v_1,some v_2,some x33.2.2.2.1,x20.1,some x33.2.2.2.2.1,x33.1,x33.2.1,x33.2.2.1],sc:=λg34 x33=>(SC.addO (SC.addO (SC.add (SC.add (SC.add SC.nil K (rV Xa) v_0 a_0) K (rV Xa) v_1 a_1) K Xa v_2 a_2) K (oL (oF Xa)) x33.2.2.2.1 g34.1 x33.2.2.2.2.2.1) K (oL (oL (oF Xa))) x33.2.2.2.2.1 g34.2 x33.2.2.2.2.2.2)}:Jn ((List Int)×(List (List Int))) (Option V×Option V×Option V×V×V×List XH×List XH))) (λ_=>tg1 6) ((none),(none),(none),x20.2.1,v22,x20.2.2,C23) (g19,a21) (XF (XZ (Xg 2) (Ym (Xb (r:=(rV Xa)) 0 rfl (λ_ s=>s.l.l.l.l.r))))) rfl rfl (λ_ s=>(SC.i (SC.i (SC.i (SC.i (SC.i SC.t s.l.l.l.l.r) s.l.l.l.r) s.l.l.r) s.l.r) s.r)) (λg35 x36 a37 v38=>(Xp (K:=K) (r:=Xa) 7 (EvB.sh (XQ (XZ (Xg 4) (Xb (r:=Xa) 6 rfl (λ_ s=>s.r))) (Xg 5))) λa39 v40=>(NF (K:=K) (r:=Xa) (f:=(λp55=>(λa50 a51=>(Rs.bind (Rs.bind (Rs.bind (Rs.ok a_1) λx58=>(Rs.bind (Rs.bind (Rs.ok a39) λx56=>(Rs.bind (Rs.ok (1:Int)) λx57=>(Rs.ok (x56+x57)))) λx59=>(atR x58 x59))) λx60=>(Rs.bind (Rs.ok a_2) λx61=>(Z2 x60 x61))) λx63=>(Rs.bind (atR g35.2 x63) λx64=>(Rs.bind (Rs.ok a50) λx62=>(chk (x64.length<sizeLine) (Rs.bind (QO g35.2 x63 (x64++[x62])) λa65=>(Rs.ok (a51,a65)))))))) p55.1 p55.2)) 8 3 1 rfl rfl (λ_ s=>s.l.l.l.r) (XO (XE (Xb (r:=(rV Xa)) 1 rfl (λ_ s=>s.l.l.l.l.l.r)) (Xb (r:=Xa) 7 rfl (λ_ s=>s.r))) (Ym (YY (o:=(oL (oF Xa))) 3 1 rfl rfl (λ_ s=>s.l.l.l.r)))) λa50 a51 v52 C53=>(HZ (K:=K) (r:=Xa) 5 0 rfl rfl (λ_ s=>s.l.l.l.l.r) (Xj (r:=Xa) 8 rfl (λ_ s=>s.l.r)) (XO (XE (Xb (r:=(rV Xa)) 1 rfl (λ_ s=>s.l.l.l.l.l.l.l.r)) (XQ (Xb (r:=Xa) 7 rfl (λ_ s=>s.l.l.r)) (Xg 1))) (Xb (r:=Xa) 2 rfl (λ_ s=>s.l.l.l.l.l.l.r))) λa65 C66=>(Xu (J:=_) ((some v38),(some v40),(some v52),x36.2.2.2.1,x36.2.2.2.2.1,C53,C66) (a51,a65) rfl rfl (λ_ s=>(SC.i (SC.i (SC.i (SC.i (SC.i SC.t s.l.l.l.l.l.l.l.l.l.r) s.l.l.l.l.l.l.l.l.r) s.l.l.l.l.l.l.l.r) s.l.r) s.r))))))) λg67 x68=>(XB (Yd (o:=(oL (oL (oF Xa)))) 5 0 rfl rfl (λ_ s=>s.r)))))))
theorem YW:FnScope ["_law_names","_law_signs","_law_some","_law_strands","_law_seen","_law_walks","_law_start","_law_walk","_law_at","_law_k","_law_low"] ["_law_names","_law_signs","_law_some","_law_strands"] (Xi Uv):=⟨rfl,rfl,rfl,by decide+kernel,rfl,by decide+kernel,by decide+kernel⟩
theorem DK (D:Def K mg "_law_plaited" Uv ["_law_names","_law_signs","_law_some","_law_strands"])(Z:Blt mg):Fn P w K mg base 1 "_law_plaited" ["_law_names","_law_signs","_law_some","_law_strands"] (sp4 (rV Xa) (rD Xa) (rV Xa) Xa (oL (oL (oF Xa))) Qb K):=by
 refine Yf D YW (λvs H Q E h=>?_) (λf cdv A outer s H vs Q E hr h=>?_)
 ·obtain⟨v_0,v_1,v_2,v_3,a_0,a_1,a_2,a_3,b,rfl,_⟩:=h;rfl
 obtain⟨v_0,v_1,v_2,v_3,a_0,a_1,a_2,a_3,b,rfl,h_0,h_1,h_2,h_3,hm,q⟩:=h
 have hu:=hu8 hr
 have hu1:=Yb hr
 refine⟨_,(Xc (Xm (i:=4) YW.nd rfl (Or.inl rfl) (Xq U0 (X1 (Xd QE Xe)) (pv 3)))
  (Xc (Xm (i:=5) YW.nd rfl (Or.inl rfl) (X1 Xe))
  (Xc (X6 PassesOwn.never rfl (XR rfl Z.b_range (Xd (pv 3) Xe)) (Xl (i:=6) YW.nd rfl (Or.inl rfl))
   (Xc (Zb (UR (Ve (XJ (Xn K rfl) (pv 4) (pv 6) (λ_ _=>rfl))))
    (Xc (Xm (i:=7) YW.nd rfl (Or.inl rfl) (X1 Xe))
    (Xc (Xm (i:=8) YW.nd rfl (Or.inl rfl) (pv 6))
    (Xc (VJ PassesOwn.never (UR (Ve (XJ (Xn K rfl) (pv 4) (pv 8) (λ_ _=>rfl))))
     (Xc (Q8 QE (Uu (pv 4) (pv 8) Zv))
     (Xc (X6 PassesOwn.never rfl (XR rfl Z.b_range (Xd (Xy (Xo K rfl) rfl Z.b_len PySem.boot_len (Xd (pv 0) Xe)) Xe)) (Xl (i:=9) YW.nd rfl (Or.inl rfl))
      (Xc (Xm (i:=10) YW.nd rfl (Or.inl rfl) (Xq Ya (XJ (Xn K rfl) (pv 2) (Xq X9 (Xq Yz Xh (pv 9)) Xh) (λ_ _=>rfl)) (Xq JL (pv 3) Xh)))
      (Xc (Zb (XI UH (pv 8) (pv 10) (XW _))
       (Xc (Yl (ZP PySem.F.plainAttrs_list PySem.F.slot_list_append PySem.F.type_list_append XX (pv 7) (Xd (Xq Yz (XJ (Xn K rfl) (pv 0) (pv 9) (λ_ _=>rfl)) (Fc hu1 (pv 1) (XJ (Xn K rfl) (pv 0) (pv 9) (λ_ _=>rfl)) (λ_ _=>rfl))) Xe)))
       (Xc (Xm (i:=8) YW.nd rfl (Or.inl rfl) (Xq X9 (pv 10) Xh))
       Xf))
       (Xc (Zb (XI UH (pv 8) (Xq X9 (pv 10) Xh) (XW _))
        (Xc (Yl (ZP PySem.F.plainAttrs_list PySem.F.slot_list_append PySem.F.type_list_append XX (pv 7) (Xd (Xq Yz (Up QG (XJ (Xn K rfl) (pv 0) (pv 9) (λ_ _=>rfl))) (Fc hu1 (pv 1) (XJ (Xn K rfl) (pv 0) (pv 9) (λ_ _=>rfl)) (λ_ _=>rfl))) Xe)))
        (Xc (Xm (i:=8) YW.nd rfl (Or.inl rfl) (pv 10))
        Xf))
        Xf)
       Xf))
      Xf)))
     Xf)))
    (Xc (Yl (ZP PySem.F.plainAttrs_list PySem.F.slot_list_append PySem.F.type_list_append XX (pv 5) (Xd (pv 7) Xe)))
    Xf))))
    Xf)
   Xf))
  (Xc (XC (pv 5))
  Xf)))),?_⟩
 refine Yk (S:=(SC.add (SC.add (SC.add (SC.add SC.nil K (rV Xa) v_0 a_0) K (rD Xa) v_1 a_1) K (rV Xa) v_2 a_2) K Xa v_3 a_3)) (σ:=[some v_0,some v_1,some v_2,some v_3,none,none,none,none,none,none,none]) 3 ?_ (SC.i (SC.i (SC.i (SC.i SC.t h_0) h_1) h_2) h_3) hm q rfl
 unfold Qb
 exact(XM (K:=K) (o:=(oL (oF X0))) 4 1 (UV (Ev.ls (ZR (Xw (EvB.sh (ZE false)) Zf))) (Xb (r:=Xa) 3 rfl (λ_ s=>s.r))) (Nat.le_of_ble_eq_true rfl) λa1 v2 C3=>(XM (K:=K) (o:=(oL (oL (oF Xa)))) 5 0 (Qt (o:=(oL (oF Xa)))) (Nat.le_of_ble_eq_true rfl) λa9 v10 C11=>(Yr (K:=K) (J:=({oo:=λx13=>[x13.2.2.2.2.2.2.2.2,x13.2.2.2.2.2.2.2.1,[]],ss:=λx13=>[some v_0,some v_1,some v_2,some v_3,some x13.2.2.2.1,some x13.2.2.2.2.2.1,x13.1,x13.2.1,x13.2.2.1,x13.2.2.2.2.1,x13.2.2.2.2.2.2.1],sc:=λg14 x13=>(SC.addO (SC.addO (SC.add (SC.add (SC.add (SC.add SC.nil K (rV Xa) v_0 a_0) K (rD Xa) v_1 a_1) K (rV Xa) v_2 a_2) K Xa v_3 a_3) K (oL (oF X0)) x13.2.2.2.1 g14.1 x13.2.2.2.2.2.2.2.1) K (oL (oL (oF Xa))) x13.2.2.2.2.2.1 g14.2 x13.2.2.2.2.2.2.2.2)}:Jn ((List Bool)×(List (List Int))) (Option V×Option V×Option V×V×Option V×V×Option V×List XH×List XH))) (λ_=>tg1 6) ((none),(none),(none),v2,(none),v10,(none),C3,C11) (a1,a9) (XF (Xb (r:=Xa) 3 rfl (λ_ s=>s.l.l.r))) rfl rfl (λ_ s=>(SC.i (SC.i (SC.i (SC.i (SC.i (SC.i SC.t s.l.l.l.l.l.r) s.l.l.l.l.r) s.l.l.l.r) s.l.l.r) s.l.r) s.r)) (λg15 x16 a17 v18=>(Zl (J:=({oo:=λx23=>[x23.2.2.2.2.2.2.2,x23.2.2.2.2.2.2.1,[]],ss:=λx23=>[some v_0,some v_1,some v_2,some v_3,some x23.2.2.1,some x23.2.2.2.2.1,some v18,x23.1,x23.2.1,x23.2.2.2.1,x23.2.2.2.2.2.1],sc:=λg24 x23=>(SC.addO (SC.addO (SC.add (SC.add (SC.add (SC.add (SC.add SC.nil K (rV Xa) v_0 a_0) K (rD Xa) v_1 a_1) K (rV Xa) v_2 a_2) K Xa v_3 a_3) K Xa v18 a17) K (oL (oF X0)) x23.2.2.1 g24.1 x23.2.2.2.2.2.2.1) K (oL (oL (oF Xa))) x23.2.2.2.2.1 g24.2 x23.2.2.2.2.2.2.2)}:Jn ((List Bool)×(List (List Int))) (Option V×Option V×V×Option V×V×Option V×List XH×List XH))) (Z1 (Fd:=FNd ({oo:=λx23=>[x23.2.2.2.2.2.2.2,x23.2.2.2.2.2.2.1,[]],ss:=λx23=>[some v_0,some v_1,some v_2,some v_3,some x23.2.2.1,some x23.2.2.2.2.1,some v18,x23.1,x23.2.1,x23.2.2.2.1,x23.2.2.2.2.2.1],sc:=λg24 x23=>(SC.addO (SC.addO (SC.add (SC.add (SC.add (SC.add (SC.add SC.nil K (rV Xa) v_0 a_0) K (rD Xa) v_1 a_1) K (rV Xa) v_2 a_2) K Xa v_3 a_3) K Xa v18 a17) K (oL (oF X0)) x23.2.2.1 g24.1 x23.2.2.2.2.2.2.1) K (oL (oL (oF Xa))) x23.2.2.2.2.1 g24.2 x23.2.2.2.2.2.2.2)}:Jn ((List Bool)×(List (List Int))) (Option V×Option V×V×Option V×V×Option V×List XH×List XH))) (Va (UD (K:=K) (XE (YY (o:=(oL (oF X0))) 4 1 rfl rfl (λ_ s=>s.l.l.r)) (Xb (r:=Xa) 6 rfl (λ_ s=>s.r))))) (XM (K:=K) (o:=(oL (oF Xa))) 7 2 (Qt (o:=(oF Xa))) (Nat.le_of_ble_eq_true rfl) λa25 v26 C27=>(Xp (K:=K) (r:=Xa) 8 (Xj (r:=Xa) 6 rfl (λ_ s=>s.l.r)) λa28 v29=>(Kz (J:=({oo:=λx30=>[x16.2.2.2.2.2.2.2.2,x30.2.2.2.2.2.1,x30.2.2.2.2.2.2],ss:=λx30=>[some v_0,some v_1,some v_2,some v_3,some x30.1,some x16.2.2.2.2.2.1,some v18,some x30.2.2.2.2.1,some x30.2.2.2.1,x30.2.1,x30.2.2.1],sc:=λg31 x30=>(SC.addO (SC.add (SC.addO (SC.add (SC.addO (SC.add (SC.add (SC.add (SC.add SC.nil K (rV Xa) v_0 a_0) K (rD Xa) v_1 a_1) K (rV Xa) v_2 a_2) K Xa v_3 a_3) K (oL (oL (oF Xa))) x16.2.2.2.2.2.1 g15.2 x16.2.2.2.2.2.2.2.2) K Xa v18 a17) K (oL (oF X0)) x30.1 g31.1 x30.2.2.2.2.2.1) K Xa x30.2.2.2.1 g31.2.1) K (oL (oF Xa)) x30.2.2.2.2.1 g31.2.2 x30.2.2.2.2.2.2)}:Jn ((List Bool)×Int×(List Int)) (V×Option V×Option V×V×V×List XH×List XH))) (a_3.natAbs+2) (x16.2.2.2.1,(x16.2.2.2.2.1),(x16.2.2.2.2.2.2.1),v29,v26,x16.2.2.2.2.2.2.2.1,C27) (g15.1,a28,a25) rfl rfl (λ_ s=>(SC.i (SC.i (SC.i (SC.i (SC.i (SC.i (SC.i (SC.i (SC.i SC.t s.l.l.l.l.l.l.l.l.r) s.l.l.l.l.l.l.l.r) s.l.l.l.l.l.l.r) s.l.l.l.l.l.r) s.l.l.l.r) s.l.l.r) s.l.l.l.l.r) s.r) s.l.r)) (λg32 x33=>(Va (UD (K:=K) (XE (YY (o:=(oL (oF X0))) 4 1 rfl rfl (λ_ s=>s.l.l.r)) (Xb (r:=Xa) 8 rfl (λ_ s=>s.l.r)))))) (λg32 x33=>(Qi (K:=K) (o:=(oF X0)) 4 1 rfl rfl (λ_ s=>s.l.l.r) (EvS.ev (EvB.sh (ZE true))) (λ_=>(Xb (r:=Xa) 8 rfl (λ_ s=>s.l.r))) λa39 C40=>(Yr (K:=K) (J:=({oo:=λx43=>[x16.2.2.2.2.2.2.2.2,C40,x43.2.2.2.2],ss:=λx43=>[some v_0,some v_1,some v_2,some v_3,some x33.1,some x16.2.2.2.2.2.1,some v18,some x43.2.2.2.1,some x43.2.2.1,x43.1,x43.2.1],sc:=λg44 x43=>(SC.addO (SC.add (SC.addO (SC.add (SC.addO (SC.add (SC.add (SC.add (SC.add SC.nil K (rV Xa) v_0 a_0) K (rD Xa) v_1 a_1) K (rV Xa) v_2 a_2) K Xa v_3 a_3) K (oL (oL (oF Xa))) x16.2.2.2.2.2.1 g15.2 x16.2.2.2.2.2.2.2.2) K Xa v18 a17) K (oL (oF X0)) x33.1 a39 C40) K Xa x43.2.2.1 g44.1) K (oL (oF Xa)) x43.2.2.2.1 g44.2 x43.2.2.2.2)}:Jn (Int×(List Int)) (Option V×Option V×V×V×List XH))) (λ_=>tg1 9) ((x33.2.1),(x33.2.2.1),x33.2.2.2.1,x33.2.2.2.2.1,x33.2.2.2.2.2.2) (g32.2.1,g32.2.2) (XF (Ym (Xb (r:=(rV Xa)) 0 rfl (λ_ s=>s.l.l.l.l.l.l.l.l.l.r)))) rfl rfl (λ_ s=>(SC.i (SC.i (SC.i (SC.i (SC.i (SC.i (SC.i (SC.i (SC.i SC.t s.l.l.l.l.l.l.l.l.l.r) s.l.l.l.l.l.l.l.l.r) s.l.l.l.l.l.l.l.r) s.l.l.l.l.l.l.r) s.l.l.l.l.l.r) s.l.l.l.l.r) s.r) s.l.l.r) s.l.r)) (λg45 x46 a47 v48=>(Xp (K:=K) (r:=Xa) 10 (EvB.sh (XO (XE (Xb (r:=(rV Xa)) 2 rfl (λ_ s=>s.l.l.l.l.l.l.l.r)) (XQ (XZ (Xg 8) (Xb (r:=Xa) 9 rfl (λ_ s=>s.r))) (Xg 10))) (Qn (Xb (r:=Xa) 3 rfl (λ_ s=>s.l.l.l.l.l.l.r)) (Xg 1)))) λa49 v50=>(Zl (J:=({oo:=λx64=>[x16.2.2.2.2.2.2.2.2,C40,x64.2.2],ss:=λx64=>[some v_0,some v_1,some v_2,some v_3,some x33.1,some x16.2.2.2.2.2.1,some v18,some x64.2.1,some x64.1,some v48,some v50],sc:=λg65 x64=>(SC.addO (SC.add (SC.add (SC.add (SC.addO (SC.add (SC.addO (SC.add (SC.add (SC.add (SC.add SC.nil K (rV Xa) v_0 a_0) K (rD Xa) v_1 a_1) K (rV Xa) v_2 a_2) K Xa v_3 a_3) K (oL (oL (oF Xa))) x16.2.2.2.2.2.1 g15.2 x16.2.2.2.2.2.2.2.2) K Xa v18 a17) K (oL (oF X0)) x33.1 a39 C40) K Xa v48 a47) K Xa v50 a49) K Xa x64.1 g65.1) K (oL (oF Xa)) x64.2.1 g65.2 x64.2.2)}:Jn (Int×(List Int)) (V×V×List XH))) (Z1 (Fd:=FNd ({oo:=λx64=>[x16.2.2.2.2.2.2.2.2,C40,x64.2.2],ss:=λx64=>[some v_0,some v_1,some v_2,some v_3,some x33.1,some x16.2.2.2.2.2.1,some v18,some x64.2.1,some x64.1,some v48,some v50],sc:=λg65 x64=>(SC.addO (SC.add (SC.add (SC.add (SC.addO (SC.add (SC.addO (SC.add (SC.add (SC.add (SC.add SC.nil K (rV Xa) v_0 a_0) K (rD Xa) v_1 a_1) K (rV Xa) v_2 a_2) K Xa v_3 a_3) K (oL (oL (oF Xa))) x16.2.2.2.2.2.1 g15.2 x16.2.2.2.2.2.2.2.2) K Xa v18 a17) K (oL (oF X0)) x33.1 a39 C40) K Xa v48 a47) K Xa v50 a49) K Xa x64.1 g65.1) K (oL (oF Xa)) x64.2.1 g65.2 x64.2.2)}:Jn (Int×(List Int)) (V×V×List XH))) (Xv (K:=K) (Q5 (Xb (r:=Xa) 8 rfl (λ_ s=>s.l.l.l.r)) (Xb (r:=Xa) 10 rfl (λ_ s=>s.r)))) (Zy (K:=K) (o:=(oF Xa)) (f:=λa76=>(Rs.bind (Rs.bind (Rs.ok a49) λx79=>(Rs.bind (Rs.ok (1:Int)) λx80=>(Rs.ok (x79+x80)))) λa77=>(Rs.ok (a77,a76)))) 7 2 rfl rfl rfl (λ_ s=>s.l.l.r) (EvS.ev (EvB.sh (XZ (XE (Xb (r:=(rV Xa)) 0 rfl (λ_ s=>s.l.l.l.l.l.l.l.l.l.l.r)) (Xb (r:=Xa) 9 rfl (λ_ s=>s.l.r))) (U9 (Xb (r:=(rD Xa)) 1 rfl (λ_ s=>s.l.l.l.l.l.l.l.l.l.r)) (XE (Xb (r:=(rV Xa)) 0 rfl (λ_ s=>s.l.l.l.l.l.l.l.l.l.l.r)) (Xb (r:=Xa) 9 rfl (λ_ s=>s.l.r))))))) λa74 C75=>(Xp (K:=K) (r:=Xa) 8 (EvB.sh (XQ (Xb (r:=Xa) 10 rfl (λ_ s=>s.l.r)) (Xg 1))) λa77 v78=>(Xu (J:=_) (v78,x46.2.2.2.1,C75) (a77,(g45.2++[a74])) rfl rfl (λ_ s=>(SC.i (SC.i (SC.i (SC.i (SC.i (SC.i (SC.i (SC.i (SC.i (SC.i (SC.i SC.t s.l.l.l.l.l.l.l.l.l.l.l.l.r) s.l.l.l.l.l.l.l.l.l.l.l.r) s.l.l.l.l.l.l.l.l.l.l.r) s.l.l.l.l.l.l.l.l.l.r) s.l.l.l.l.l.l.l.l.r) s.l.l.l.l.l.l.l.r) s.l.l.l.l.l.l.r) s.l.l.l.r) s.l.l.r) s.r) s.l.r))))) (Zl (J:=({oo:=λx86=>[x16.2.2.2.2.2.2.2.2,C40,x86.2.2],ss:=λx86=>[some v_0,some v_1,some v_2,some v_3,some x33.1,some x16.2.2.2.2.2.1,some v18,some x86.2.1,some x86.1,some v48,some v50],sc:=λg87 x86=>(SC.addO (SC.add (SC.add (SC.add (SC.addO (SC.add (SC.addO (SC.add (SC.add (SC.add (SC.add SC.nil K (rV Xa) v_0 a_0) K (rD Xa) v_1 a_1) K (rV Xa) v_2 a_2) K Xa v_3 a_3) K (oL (oL (oF Xa))) x16.2.2.2.2.2.1 g15.2 x16.2.2.2.2.2.2.2.2) K Xa v18 a17) K (oL (oF X0)) x33.1 a39 C40) K Xa v48 a47) K Xa v50 a49) K Xa x86.1 g87.1) K (oL (oF Xa)) x86.2.1 g87.2 x86.2.2)}:Jn (Int×(List Int)) (V×V×List XH))) (Z1 (Fd:=FNd ({oo:=λx86=>[x16.2.2.2.2.2.2.2.2,C40,x86.2.2],ss:=λx86=>[some v_0,some v_1,some v_2,some v_3,some x33.1,some x16.2.2.2.2.2.1,some v18,some x86.2.1,some x86.1,some v48,some v50],sc:=λg87 x86=>(SC.addO (SC.add (SC.add (SC.add (SC.addO (SC.add (SC.addO (SC.add (SC.add (SC.add (SC.add SC.nil K (rV Xa) v_0 a_0) K (rD Xa) v_1 a_1) K (rV Xa) v_2 a_2) K Xa v_3 a_3) K (oL (oL (oF Xa))) x16.2.2.2.2.2.1 g15.2 x16.2.2.2.2.2.2.2.2) K Xa v18 a17) K (oL (oF X0)) x33.1 a39 C40) K Xa v48 a47) K Xa v50 a49) K Xa x86.1 g87.1) K (oL (oF Xa)) x86.2.1 g87.2 x86.2.2)}:Jn (Int×(List Int)) (V×V×List XH))) (Xv (K:=K) (Q5 (Xb (r:=Xa) 8 rfl (λ_ s=>s.l.l.l.r)) (XQ (Xb (r:=Xa) 10 rfl (λ_ s=>s.r)) (Xg 1)))) (Zy (K:=K) (o:=(oF Xa)) (f:=λa99=>(Rs.bind (Rs.ok a49) λa100=>(Rs.ok (a100,a99)))) 7 2 rfl rfl rfl (λ_ s=>s.l.l.r) (EvS.ev (EvB.sh (XZ (ZS (XE (Xb (r:=(rV Xa)) 0 rfl (λ_ s=>s.l.l.l.l.l.l.l.l.l.l.r)) (Xb (r:=Xa) 9 rfl (λ_ s=>s.l.r)))) (U9 (Xb (r:=(rD Xa)) 1 rfl (λ_ s=>s.l.l.l.l.l.l.l.l.l.r)) (XE (Xb (r:=(rV Xa)) 0 rfl (λ_ s=>s.l.l.l.l.l.l.l.l.l.l.r)) (Xb (r:=Xa) 9 rfl (λ_ s=>s.l.r))))))) λa97 C98=>(Xp (K:=K) (r:=Xa) 8 (Xj (r:=Xa) 10 rfl (λ_ s=>s.l.r)) λa100 v101=>(Xu (J:=_) (v101,x46.2.2.2.1,C98) (a100,(g45.2++[a97])) rfl rfl (λ_ s=>(SC.i (SC.i (SC.i (SC.i (SC.i (SC.i (SC.i (SC.i (SC.i (SC.i (SC.i SC.t s.l.l.l.l.l.l.l.l.l.l.l.l.r) s.l.l.l.l.l.l.l.l.l.l.l.r) s.l.l.l.l.l.l.l.l.l.l.r) s.l.l.l.l.l.l.l.l.l.r) s.l.l.l.l.l.l.l.l.r) s.l.l.l.l.l.l.l.r) s.l.l.l.l.l.l.r) s.l.l.l.r) s.l.l.r) s.r) s.l.r))))) (Xu (J:=_) (x46.2.2.1,x46.2.2.2.1,x46.2.2.2.2) (g45.1,g45.2) rfl rfl (λ_ s=>(SC.i (SC.i (SC.i (SC.i (SC.i (SC.i (SC.i (SC.i (SC.i (SC.i (SC.i SC.t s.l.l.l.l.l.l.l.l.l.l.r) s.l.l.l.l.l.l.l.l.l.r) s.l.l.l.l.l.l.l.l.r) s.l.l.l.l.l.l.l.r) s.l.l.l.l.l.l.r) s.l.l.l.l.l.r) s.l.l.l.l.r) s.l.r) s.r) s.l.l.l.r) s.l.l.r)))) λg103 x102=>(Xu (J:=_) (x102.1,x102.2.1,x102.2.2) (g103.1,g103.2) rfl rfl (λ_ s=>(SC.i (SC.i (SC.i (SC.i (SC.i (SC.i (SC.i (SC.i (SC.i (SC.i (SC.i SC.t s.l.l.l.l.l.l.l.l.l.l.r) s.l.l.l.l.l.l.l.l.l.r) s.l.l.l.l.l.l.l.l.r) s.l.l.l.l.l.l.l.r) s.l.l.l.l.l.l.r) s.l.l.l.l.l.r) s.l.l.l.l.r) s.l.l.l.r) s.l.l.r) s.l.r) s.r))))) λg105 x104=>(Xu (J:=_) ((some v48),(some v50),x104.1,x104.2.1,x104.2.2) (g105.1,g105.2) rfl rfl (λ_ s=>(SC.i (SC.i (SC.i (SC.i (SC.i (SC.i (SC.i (SC.i (SC.i SC.t s.l.l.l.l.l.l.l.l.l.l.r) s.l.l.l.l.l.l.l.l.l.r) s.l.l.l.l.l.l.l.l.r) s.l.l.l.l.l.l.l.r) s.l.l.l.l.l.l.r) s.l.l.l.l.l.r) s.l.l.l.l.r) s.l.r) s.r)))))) λg106 x107=>(Xu (J:=_) (x33.1,(x107.1),(x107.2.1),x107.2.2.1,x107.2.2.2.1,C40,x107.2.2.2.2) (a39,g106.1,g106.2) rfl rfl (λ_ s=>(SC.i (SC.i (SC.i (SC.i (SC.i (SC.i (SC.i (SC.i (SC.i SC.t s.l.l.l.l.l.l.l.l.r) s.l.l.l.l.l.l.l.r) s.l.l.l.l.l.l.r) s.l.l.l.l.l.r) s.l.l.l.l.r) s.l.l.l.r) s.l.l.r) s.l.r) s.r)))))) λg109 x110=>(Zy (K:=K) (o:=(oL (oF Xa))) (f:=λa113=>(Rs.ok (g109.1,a113))) 5 0 rfl rfl rfl (λ_ s=>s.l.l.l.l.r) (Yd (o:=(oL (oF Xa))) 7 2 rfl rfl (λ_ s=>s.r)) λa111 C112=>(Xu (J:=_) ((some x110.2.2.2.2.1),(some x110.2.2.2.1),x110.1,(x110.2.1),x16.2.2.2.2.2.1,(x110.2.2.1),x110.2.2.2.2.2.1,C112) (g109.1,(g15.2++[a111])) rfl rfl (λ_ s=>(SC.i (SC.i (SC.i (SC.i (SC.i (SC.i (SC.i SC.t s.l.l.l.l.l.l.l.l.l.r) s.l.l.l.l.l.l.l.l.r) s.l.l.l.l.l.l.l.r) s.l.l.l.l.l.l.r) s.l.l.l.l.r) s.l.l.l.r) s.r))))))) (Xu (J:=_) ((x16.2.1),(x16.2.2.1),x16.2.2.2.1,(x16.2.2.2.2.1),x16.2.2.2.2.2.1,(x16.2.2.2.2.2.2.1),x16.2.2.2.2.2.2.2.1,x16.2.2.2.2.2.2.2.2) (g15.1,g15.2) rfl rfl (λ_ s=>(SC.i (SC.i (SC.i (SC.i (SC.i (SC.i (SC.i SC.t s.l.l.l.l.l.l.r) s.l.l.l.l.l.r) s.l.l.l.l.r) s.l.l.l.r) s.r) s.l.l.r) s.l.r)))) λg115 x114=>(Xu (J:=_) ((some v18),(x114.1),(x114.2.1),x114.2.2.1,(x114.2.2.2.1),x114.2.2.2.2.1,(x114.2.2.2.2.2.1),x114.2.2.2.2.2.2.1,x114.2.2.2.2.2.2.2) (g115.1,g115.2) rfl rfl (λ_ s=>(SC.i (SC.i (SC.i (SC.i (SC.i (SC.i SC.t s.l.l.l.l.l.l.r) s.l.l.l.l.l.r) s.l.l.l.l.r) s.l.l.l.r) s.l.r) s.r))))) λg116 x117=>(XB (Yd (o:=(oL (oL (oF Xa)))) 5 0 rfl rfl (λ_ s=>s.r))))))
theorem Zd:FnScope ["_law_script","_law_place","_law_most","_law_sizes","_law_some","_law_names","_law_signs","_law_last","_law_k","_law_step","_law_walks","_law_rings"] ["_law_script","_law_place","_law_most"] (Xi Kh):=⟨rfl,rfl,rfl,by decide+kernel,rfl,by decide+kernel,by decide+kernel⟩
theorem Hb (D:Def K mg "_law_drawn" Kh ["_law_script","_law_place","_law_most"])(g_row:Fn P w K mg base 2 "_law_row" ["_law_script","_law_place","_law_sizes"] (sp3 (rL Xa) Xa (rV Xa) (oL (oF Xa)) KS K))(g_plaited:Fn P w K mg base 1 "_law_plaited" ["_law_names","_law_signs","_law_some","_law_strands"] (sp4 (rV Xa) (rD Xa) (rV Xa) Xa (oL (oL (oF Xa))) Qb K))(g_any:Fn P w K mg base 1 "_law_any" ["_law_names","_law_some","_law_rings"] (sp3 (rV Xa) (rV Xa) Xa (oL (oL (oF Xa))) DF K))(g_mixed:Fn P w K mg base 1 "_law_mixed" ["_law_names","_law_some"] (sp2 (rV Xa) (rV Xa) (oL (oF Xa)) J1 K))(Z:Blt mg):Fn P w K mg base 3 "_law_drawn" ["_law_script","_law_place","_law_most"] (sp3 (rL Xa) Xa Xa (oT2 (oL (oL (oF Xa))) (oL (oF (rP2 Xa Xa)))) Js K):=by
 refine Yf D Zd (λvs H Q E h=>?_) (λf cdv A outer s H vs Q E hr h=>?_)
 ·obtain⟨v_0,v_1,v_2,a_0,a_1,a_2,b,rfl,_⟩:=h;rfl
 obtain⟨v_0,v_1,v_2,a_0,a_1,a_2,b,rfl,h_0,h_1,h_2,hm,q⟩:=h
 have hu:=hu8 hr
 have hu1:=Yb hr
 refine⟨_,(Xc (Xm (i:=3) Zd.nd rfl (Or.inl rfl) (X1 (Xd (Xq X9 (pv 2) Xh) (Xd Xh (Xd Xh (Xd Xh (Xd Xh Xe)))))))
  (Xc (Xm (i:=4) Zd.nd rfl (Or.inl rfl) (XN g_row hr (by decide) (Xd (pv 0) (Xd (pv 1) (Xd (Xq KM (pv 3) (Xq U0 (X1 (Xd Xh (Xd Xh (Xd Xh (Xd Xh Xe))))) (Xq Yz Xh (pv 2)))) Xe)))))
  (Xc (Xm (i:=5) Zd.nd rfl (Or.inl rfl) (X1 Xe))
  (Xc (Xm (i:=6) Zd.nd rfl (Or.inr rfl) Hz)
  (Xc (Xm (i:=7) Zd.nd rfl (Or.inl rfl) Xh)
  (Xc (X6 PassesOwn.never rfl (XR rfl Z.b_range (Xd (XJ (Xn K rfl) (pv 4) Xh (λ_ _=>rfl)) Xe)) (Xl (i:=8) Zd.nd rfl (Or.inl rfl))
   (Xc (Xm (i:=9) Zd.nd rfl (Or.inl rfl) (Xq Yz (XJ (Xn K rfl) (pv 4) (Xq X9 (Xq Yz Xh (pv 8)) Xh) (λ_ _=>rfl)) (XJ (Xn K rfl) (X1 (Xd Xh (Xd Xh (Xd (Xq Dd Xh Xh) Xe)))) (XJ (Xn K rfl) (pv 4) Xh (λ_ _=>rfl)) (λ_ _=>rfl))))
   (Xc (Xm (i:=7) Zd.nd rfl (Or.inl rfl) (Xq X9 (Xq X9 (pv 7) Xh) (pv 9)))
   (Xc (Yl (ZP PySem.F.plainAttrs_list PySem.F.slot_list_append PySem.F.type_list_append XX (pv 5) (Xd (pv 7) Xe)))
   (Xc (IX hu1 (pv 6) (pv 7) (Xq JL (Xq Yz Xh (XJ (Xn K rfl) (pv 4) (Xq X9 (Xq Yz Xh (pv 8)) Xh) (λ_ _=>rfl))) Xh) rfl)
   Xf)))))
  (Xc (Zb (XI Uo (XJ (Xn K rfl) (pv 4) Xh (λ_ _=>rfl)) Xh (XW _))
   (Xc (Xm (i:=10) Zd.nd rfl (Or.inl rfl) (XN g_plaited hr (by decide) (Xd (XN g_mixed hr (by decide) (Xd (pv 5) (Xd (pv 4) Xe))) (Xd (pv 6) (Xd (pv 4) (Xd (Xq X9 Xh (XJ (Xn K rfl) (pv 4) Xh (λ_ _=>rfl))) Xe))))))
   Xf)
   (Xc (Xm (i:=11) Zd.nd rfl (Or.inl rfl) (Xy (JK rfl) rfl Z.b_max PyProof.Rows.boot_max (Xd (XJ (Xn K rfl) (pv 4) Xh (λ_ _=>rfl)) (Xd (Xy (Bp rfl) rfl Z.b_min PyProof.Rows.boot_min (Xd (Xy (Xo K rfl) rfl Z.b_len PySem.boot_len (Xd (pv 5) Xe)) (Xd Xh Xe))) Xe))))
   (Xc (Xm (i:=10) Zd.nd rfl (Or.inl rfl) (XN g_any hr (by decide) (Xd (pv 5) (Xd (pv 4) (Xd (pv 11) Xe)))))
   Xf)))
  (Xc (XC (ZF (Xd (pv 10) (Xd (Yp (sc:=(Xi Kh)) (N0:=["_law_script","_law_place","_law_most","_law_sizes","_law_some","_law_names","_law_signs","_law_last","_law_k","_law_step","_law_walks","_law_rings"]) (tns:=["_law_one"]) (caps:=[(6,"_law_signs")]) rfl (XG (K:=K) rfl (pv 5)) (YL (by decide)) (λcl C s H ex E=>⟨Xl (i:=0) (show List.Nodup (["_law_one","_law_signs"]:List Str) by decide+kernel) rfl (Or.inl rfl),YD,(ZF (Xd (pv 0) (Xd (Fc hu1 (pv 1) (pv 0) (λ_ _=>rfl)) Xe)))⟩)) Xe))))
  Xf)))))))),?_⟩
 refine Yk (S:=(SC.add (SC.add (SC.add SC.nil K (rL Xa) v_0 a_0) K Xa v_1 a_1) K Xa v_2 a_2)) (σ:=[some v_0,some v_1,some v_2,none,none,none,none,none,none,none,none,none]) 3 ?_ (SC.i (SC.i (SC.i SC.t h_0) h_1) h_2) hm q rfl
 unfold Js
 exact(Xp (K:=K) (r:=(rV Xa)) 3 (Ev.sh (ZR (Xw (EvB.sh (XQ (Xb (r:=Xa) 2 rfl (λ_ s=>s.r)) (Xg 1))) (Xw (EvB.sh (Xg 5)) (Xw (EvB.sh (Xg 4)) (Xw (EvB.sh (Xg 3)) (Xw (EvB.sh (Xg 3)) Zf))))))) λa1 v2=>(Xp (K:=K) (r:=(rV Xa)) 4 (Ev.sh (Yc (Xb (r:=(rL Xa)) 0 rfl (λ_ s=>s.l.l.l.r)) (Xb (r:=Xa) 1 rfl (λ_ s=>s.l.l.r)) (Ev.toB (Dm (EvS.ls (Xj (r:=(rV Xa)) 3 rfl (λ_ s=>s.r))) (Ev.ls (UV (Ev.ls (ZR (Xw (EvB.sh (Xg 80)) (Xw (EvB.sh (Xg 5)) (Xw (EvB.sh (Xg 2)) (Xw (EvB.sh (Xg 3)) Zf)))))) (XZ (Xg 2) (Xb (r:=Xa) 2 rfl (λ_ s=>s.l.r))))))))) λa16 v17=>(XM (K:=K) (o:=(oL (oF Xa))) 5 2 (Qt (o:=(oF Xa))) (Nat.le_of_ble_eq_true rfl) λa37 v38 C39=>(XM (K:=K) (o:=(oD Xa)) 6 1 (Ml (r:=Xa)) (Nat.le_of_ble_eq_true rfl) λa40 v41 C42=>(Xp (K:=K) (r:=Xa) 7 (EvB.sh (Xg 0)) λa43 v44=>(Yr (K:=K) (J:=({oo:=λx48=>[[],x48.2.2.2.2.2.1,x48.2.2.2.2.2.2],ss:=λx48=>[some v_0,some v_1,some v_2,some v2,some v17,some x48.2.2.2.2.1,some x48.2.2.2.1,some x48.2.2.1,x48.1,x48.2.1,none,none],sc:=λg49 x48=>(SC.addO (SC.addO (SC.add (SC.add (SC.add (SC.add (SC.add (SC.add SC.nil K (rL Xa) v_0 a_0) K Xa v_1 a_1) K Xa v_2 a_2) K (rV Xa) v2 a1) K (rV Xa) v17 a16) K Xa x48.2.2.1 g49.1) K (oD Xa) x48.2.2.2.1 g49.2.1 x48.2.2.2.2.2.1) K (oL (oF Xa)) x48.2.2.2.2.1 g49.2.2 x48.2.2.2.2.2.2)}:Jn (Int×(List (Int×Int))×(List Int)) (Option V×Option V×V×V×V×List XH×List XH))) (λ_=>tg1 8) ((none),(none),v44,v41,v38,C42,C39) (a43,a40,a37) (XF (XE (Xb (r:=(rV Xa)) 4 rfl (λ_ s=>s.l.l.l.r)) (Xg 0))) rfl rfl (λ_ s=>(SC.i (SC.i (SC.i (SC.i (SC.i (SC.i (SC.i (SC.i SC.t s.l.l.l.l.l.l.l.r) s.l.l.l.l.l.l.r) s.l.l.l.l.l.r) s.l.l.l.l.r) s.l.l.l.r) s.r) s.l.r) s.l.l.r)) (λg50 x51 a52 v53=>(Xp (K:=K) (r:=Xa) 9 (EvB.sh (XZ (XE (Xb (r:=(rV Xa)) 4 rfl (λ_ s=>s.l.l.l.l.r)) (XQ (XZ (Xg 8) (Xb (r:=Xa) 8 rfl (λ_ s=>s.r))) (Xg 8))) (XE (Ev.toB (ZR (Xw (EvB.sh (Xg 0)) (Xw (EvB.sh (Xg 1)) (Xw (EvB.sh (Kw (Xg 10) (Xg 9))) Zf))))) (XE (Xb (r:=(rV Xa)) 4 rfl (λ_ s=>s.l.l.l.l.r)) (Xg 3))))) λa54 v55=>(Xp (K:=K) (r:=Xa) 7 (EvB.sh (XQ (XQ (Xb (r:=Xa) 7 rfl (λ_ s=>s.l.l.l.l.r)) (Xg 1)) (Xb (r:=Xa) 9 rfl (λ_ s=>s.r)))) λa77 v78=>(Zy (K:=K) (o:=(oF Xa)) (f:=λa85=>(Rs.bind (Rs.bind (Rs.bind (Rs.ok (2:Int)) λx92=>(Rs.bind (Rs.bind (Rs.ok a16) λx90=>(Rs.bind (Rs.bind (Rs.bind (Rs.ok (8:Int)) λx86=>(Rs.bind (Rs.ok a52) λx87=>(Qr x86 x87))) λx88=>(Rs.bind (Rs.ok (7:Int)) λx89=>(Rs.ok (x88+x89)))) λx91=>(atR x90 x91))) λx93=>(Qr x92 x93))) λx94=>(Rs.bind (Rs.ok (1:Int)) λx95=>(Rs.ok (x94-x95)))) λx96=>(Rs.bind (Rs.ok a77) λx97=>(chk (g50.2.1.length<sizeLine) ((λa98=>(Rs.ok (a77,a98,a85))) (Uq g50.2.1 x97 x96)))))) 5 2 rfl rfl rfl (λ_ s=>s.l.l.l.r) (EvS.ev (Xj (r:=Xa) 7 rfl (λ_ s=>s.r))) λa83 C84=>(L5 (K:=K) (r:=Xa) (f:=λa98=>(Rs.ok (a77,a98,(g50.2.2++[a83])))) 6 1 rfl rfl (λ_ s=>s.l.l.l.l.l.r) (EvB.sh (Qn (XZ (Xg 2) (XE (Xb (r:=(rV Xa)) 4 rfl (λ_ s=>s.l.l.l.l.l.l.l.r)) (XQ (XZ (Xg 8) (Xb (r:=Xa) 8 rfl (λ_ s=>s.l.l.l.r))) (Xg 7)))) (Xg 1))) (Xb (r:=Xa) 7 rfl (λ_ s=>s.l.r)) λa98 C99=>(Xu (J:=_) ((some v53),(some v55),v78,x51.2.2.2.1,x51.2.2.2.2.1,C99,C84) (a77,a98,(g50.2.2++[a83])) rfl rfl (λ_ s=>(SC.i (SC.i (SC.i (SC.i (SC.i (SC.i (SC.i (SC.i SC.t s.l.l.l.l.l.l.l.l.l.l.l.l.r) s.l.l.l.l.l.l.l.l.l.l.l.r) s.l.l.l.l.l.l.l.l.l.l.r) s.l.l.l.l.l.l.l.l.l.r) s.l.l.l.l.l.l.l.l.r) s.l.l.r) s.r) s.l.r)))))))) λg100 x101=>(Zl (J:=({oo:=λx107=>[x107.2.2,x101.2.2.2.2.2.1,x101.2.2.2.2.2.2],ss:=λx107=>[some v_0,some v_1,some v_2,some v2,some v17,some x101.2.2.2.2.1,some x101.2.2.2.1,some x101.2.2.1,x101.1,x101.2.1,some x107.1,x107.2.1],sc:=λg108 x107=>(SC.addO (SC.addO (SC.addO (SC.add (SC.add (SC.add (SC.add (SC.add (SC.add SC.nil K (rL Xa) v_0 a_0) K Xa v_1 a_1) K Xa v_2 a_2) K (rV Xa) v2 a1) K (rV Xa) v17 a16) K Xa x101.2.2.1 g100.1) K (oD Xa) x101.2.2.2.1 g100.2.1 x101.2.2.2.2.2.1) K (oL (oF Xa)) x101.2.2.2.2.1 g100.2.2 x101.2.2.2.2.2.2) K (oL (oL (oF Xa))) x107.1 g108 x107.2.2)}:Jn ((List (List Int))) (V×Option V×List XH))) (Z1 (Fd:=FNd ({oo:=λx107=>[x107.2.2,x101.2.2.2.2.2.1,x101.2.2.2.2.2.2],ss:=λx107=>[some v_0,some v_1,some v_2,some v2,some v17,some x101.2.2.2.2.1,some x101.2.2.2.1,some x101.2.2.1,x101.1,x101.2.1,some x107.1,x107.2.1],sc:=λg108 x107=>(SC.addO (SC.addO (SC.addO (SC.add (SC.add (SC.add (SC.add (SC.add (SC.add SC.nil K (rL Xa) v_0 a_0) K Xa v_1 a_1) K Xa v_2 a_2) K (rV Xa) v2 a1) K (rV Xa) v17 a16) K Xa x101.2.2.1 g100.1) K (oD Xa) x101.2.2.2.1 g100.2.1 x101.2.2.2.2.2.1) K (oL (oF Xa)) x101.2.2.2.2.1 g100.2.2 x101.2.2.2.2.2.2) K (oL (oL (oF Xa))) x107.1 g108 x107.2.2)}:Jn ((List (List Int))) (V×Option V×List XH))) (Xv (K:=K) (QJ (XE (Xb (r:=(rV Xa)) 4 rfl (λ_ s=>s.l.l.l.r)) (Xg 2)) (Xg 2))) (XM (K:=K) (o:=(oL (oL (oF Xa)))) 10 0 (Q0 (Ev.toB (XT (YY (o:=(oL (oF Xa))) 5 2 rfl rfl (λ_ s=>s.r)) (Xb (r:=(rV Xa)) 4 rfl (λ_ s=>s.l.l.l.r)))) (YY (o:=(oD Xa)) 6 1 rfl rfl (λ_ s=>s.l.r)) (Xb (r:=(rV Xa)) 4 rfl (λ_ s=>s.l.l.l.r)) (XQ (Xg 2) (XE (Xb (r:=(rV Xa)) 4 rfl (λ_ s=>s.l.l.l.r)) (Xg 4)))) (Nat.le_of_ble_eq_true rfl) λa109 v110 C111=>(Xu (J:=_) (v110,(none),C111) (a109) rfl rfl (λ_ s=>(SC.i (SC.i (SC.i (SC.i (SC.i (SC.i (SC.i (SC.i (SC.i SC.t s.l.l.l.l.l.l.l.l.r) s.l.l.l.l.l.l.l.r) s.l.l.l.l.l.l.r) s.l.l.l.l.l.r) s.l.l.l.l.r) s.l.l.l.r) s.l.l.r) s.l.r) s.r)))) (Xp (K:=K) (r:=Xa) 11 (EvB.sh (Kv (XE (Xb (r:=(rV Xa)) 4 rfl (λ_ s=>s.l.l.l.r)) (Xg 1)) (Ls (Ym (YY (o:=(oL (oF Xa))) 5 2 rfl rfl (λ_ s=>s.r))) (Xg 1)))) λa124 v125=>(XM (K:=K) (o:=(oL (oL (oF Xa)))) 10 0 (Yc (YY (o:=(oL (oF Xa))) 5 2 rfl rfl (λ_ s=>s.l.r)) (Xb (r:=(rV Xa)) 4 rfl (λ_ s=>s.l.l.l.l.r)) (Xb (r:=Xa) 11 rfl (λ_ s=>s.r))) (Nat.le_of_ble_eq_true rfl) λa133 v134 C135=>(Xu (J:=_) (v134,(some v125),C135) (a133) rfl rfl (λ_ s=>(SC.i (SC.i (SC.i (SC.i (SC.i (SC.i (SC.i (SC.i (SC.i SC.t s.l.l.l.l.l.l.l.l.l.r) s.l.l.l.l.l.l.l.l.r) s.l.l.l.l.l.l.l.r) s.l.l.l.l.l.l.r) s.l.l.l.l.l.r) s.l.l.l.l.r) s.l.l.l.r) s.l.l.r) s.r)))))) λg141 x140=>(XB (JE (Yd (o:=(oL (oL (oF Xa)))) 10 0 rfl rfl (λ_ s=>s.r)) λ_=>(V0 (K:=K) (o1:=(oL (oF Xa))) 3 rfl (λ_ s=>s.l.r) (YC (λ_=>tg1 0) (Xt (Xj (r:=(rV Xa)) 5 rfl (λ_ s=>s.r))) (λC142 a143 v144=>(EvS.ev (QU (Xj (r:=Xa) 0 rfl (λ_ s=>s.r)) (EvB.sh (U9 (YY (o:=(oD Xa)) 1 3 rfl rfl (λ_ s=>s.l.l.l.l.r)) (Xb (r:=Xa) 0 rfl (λ_ s=>s.r))))))))))))))))))
theorem Lf:FnScope ["_law_drawing"] ["_law_drawing"] (Xi FR):=⟨rfl,rfl,rfl,by decide+kernel,rfl,by decide+kernel,by decide+kernel⟩
theorem IP (D:Def K mg "_law_copy" FR ["_law_drawing"])(Z:Blt mg):Fn P w K mg base 1 "_law_copy" ["_law_drawing"] (sp1 (rP2 (rV (rV Xa)) (rV (rP2 Xa Xa))) (oT2 (oL (oL (oF Xa))) (oL (oF (rP2 Xa Xa)))) Q7 K):=by
 refine Yf D Lf (λvs H Q E h=>?_) (λf cdv A outer s H vs Q E hr h=>?_)
 ·obtain⟨v_0,a_0,b,rfl,_⟩:=h;rfl
 obtain⟨v_0,a_0,b,rfl,h_0,hm,q⟩:=h
 have hu:=hu8 hr
 have hu1:=Yb hr
 refine⟨_,(Xc (XC (ZF (Xd (Yp (sc:=(Xi FR)) (N0:=["_law_drawing"]) (tns:=["_law_walk"]) (caps:=[]) rfl (XG (K:=K) rfl (XJ (Y4 K rfl) (pv 0) Xh (λ_ _=>rfl))) (YL (by decide)) (λcl C s H ex E=>⟨Xl (i:=0) (show List.Nodup (["_law_walk"]:List Str) by decide+kernel) rfl (Or.inl rfl),YD,(JJ (Qw K rfl) rfl Z.b_list PyProof.Rows.boot_list (Xd (pv 0) Xe))⟩)) (Xd (JJ (Qw K rfl) rfl Z.b_list PyProof.Rows.boot_list (Xd (XJ (Y4 K rfl) (pv 0) Xh (λ_ _=>rfl)) Xe)) Xe))))
  Xf),?_⟩
 refine Yk (S:=(SC.add SC.nil K (rP2 (rV (rV Xa)) (rV (rP2 Xa Xa))) v_0 a_0)) (σ:=[some v_0]) 0 ?_ (SC.i SC.t h_0) hm q rfl
 unfold Q7
 exact(XB (JE (YC (λ_=>tg1 0) (Xt (Vc (Xj (r:=(rP2 (rV (rV Xa)) (rV (rP2 Xa Xa)))) 0 rfl (λ_ s=>s.r)))) (λC2 a3 v4=>(GO (EvS.ls (Xj (r:=(rV Xa)) 0 rfl (λ_ s=>s.r)))))) λ_=>(GO (EvB.ls (Uf (Xb (r:=(rP2 (rV (rV Xa)) (rV (rP2 Xa Xa)))) 0 rfl (λ_ s=>s.r)))))))
theorem Fe:FnScope ["_law_one"] ["_law_one"] (Xi JW):=⟨rfl,rfl,rfl,by decide+kernel,rfl,by decide+kernel,by decide+kernel⟩
theorem GR (D:Def K mg "_law_is_whole" JW ["_law_one"])(Z:Blt mg):Fn P w K mg base 1 "_law_is_whole" ["_law_one"] (sp1 Xa (oF X0) Qa K):=by
 refine Yf D Fe (λvs H Q E h=>?_) (λf cdv A outer s H vs Q E hr h=>?_)
 ·obtain⟨v_0,a_0,b,rfl,_⟩:=h;rfl
 obtain⟨v_0,a_0,b,rfl,h_0,hm,q⟩:=h
 have hu:=hu8 hr
 have hu1:=Yb hr
 refine⟨_,(Xc (XC (M2 (Xy V4 rfl Z.b_isinstance PyProof.Rows.boot_isinstance (Xd (pv 0) (Xd (EL (v:=V.ty "int") rfl Z.b_int PyProof.Rows.boot_int rfl) Xe))) (ND (Nh (Xy V4 rfl Z.b_isinstance PyProof.Rows.boot_isinstance (Xd (pv 0) (Xd (EL (v:=V.ty "bool") rfl Z.b_bool PyProof.Rows.boot_bool rfl) Xe)))))))
  Xf),?_⟩
 refine Yk (S:=(SC.add SC.nil K Xa v_0 a_0)) (σ:=[some v_0]) 0 ?_ (SC.i SC.t h_0) hm q rfl
 unfold Qa
 exact(XB (EvS.ev (EvB.sh (HY (UN "int" true (Hg K "int") (Xb (r:=Xa) 0 rfl (λ_ s=>s.r))) (HL (UN "bool" false (K2 K) (Xb (r:=Xa) 0 rfl (λ_ s=>s.r))))))))
theorem Yw:FnScope ["_law_walks","_law_found","_law_count_here","_law_walk","_law_first","_law_number","_law_last","_law_k","_law_row_here"] ["_law_walks"] (Xi Kl):=⟨rfl,rfl,rfl,by decide+kernel,rfl,by decide+kernel,by decide+kernel⟩
theorem B8 (D:Def K mg "_law_arcs" Kl ["_law_walks"])(Z:Blt mg):Fn P w K mg base 1 "_law_arcs" ["_law_walks"] (sp1 (rV (rV Xa)) (oL (oL (oF Xa))) QQ K):=by
 refine Yf D Yw (λvs H Q E h=>?_) (λf cdv A outer s H vs Q E hr h=>?_)
 ·obtain⟨v_0,a_0,b,rfl,_⟩:=h;rfl
 obtain⟨v_0,a_0,b,rfl,h_0,hm,q⟩:=h
 have hu:=hu8 hr
 have hu1:=Yb hr
 refine⟨_,(Xc (Xm (i:=1) Yw.nd rfl (Or.inl rfl) (X1 Xe))
  (Xc (Xm (i:=2) Yw.nd rfl (Or.inl rfl) Xh)
  (Xc (X6 PassesOwn.never rfl (XG (K:=K) rfl (pv 0)) (Xl (i:=3) Yw.nd rfl (Or.inl rfl))
   (Xc (Xm (i:=4) Yw.nd rfl (Or.inl rfl) (pv 2))
   (Xc (Xm (i:=5) Yw.nd rfl (Or.inl rfl) (pv 2))
   (Xc (Xm (i:=6) Yw.nd rfl (Or.inl rfl) (Up QG Xh))
   (Xc (X6 PassesOwn.never rfl (XR rfl Z.b_range (Xd (Xy (Xo K rfl) rfl Z.b_len PySem.boot_len (Xd (pv 3) Xe)) Xe)) (Xl (i:=7) Yw.nd rfl (Or.inl rfl))
    (Xc (Zb (XI Uo (XJ (Xn K rfl) (pv 3) (pv 7) (λ_ _=>rfl)) Xh (XW _))
     (Xc (Xm (i:=6) Yw.nd rfl (Or.inl rfl) (pv 7))
     Xf)
     Xf)
    Xf))
   (Xc (Xm (i:=8) Yw.nd rfl (Or.inl rfl) (Xq U0 (X1 (Xd (pv 4) Xe)) (Xy (JK rfl) rfl Z.b_max PyProof.Rows.boot_max (Xd (Xy (Xo K rfl) rfl Z.b_len PySem.boot_len (Xd (pv 3) Xe)) (Xd Xh Xe)))))
   (Xc (X6 PassesOwn.never rfl (XR rfl Z.b_range (Xd (Xq X9 (pv 6) Xh) Xe)) (Xl (i:=7) Yw.nd rfl (Or.inl rfl))
    (Xc (Q8 (pv 5) (Uu (pv 8) (pv 7) Zv))
    (Xc (Zb (PW.pt (Iq (XI Uo (XJ (Xn K rfl) (pv 3) (pv 7) (λ_ _=>rfl)) Xh (XW _)) (Bl (XI Uo (pv 7) (pv 6) (XW _)))))
     (Xc (Xm (i:=2) Yw.nd rfl (Or.inl rfl) (Xq X9 (pv 2) Xh))
     (Xc (Xm (i:=5) Yw.nd rfl (Or.inl rfl) (pv 2))
     Xf))
     Xf)
    Xf)))
   (Xc (Xm (i:=2) Yw.nd rfl (Or.inl rfl) (Xq X9 (pv 2) Xh))
   (Xc (Yl (ZP PySem.F.plainAttrs_list PySem.F.slot_list_append PySem.F.type_list_append XX (pv 1) (Xd (pv 8) Xe)))
   Xf)))))))))
  (Xc (XC (pv 1))
  Xf)))),?_⟩
 refine Yk (S:=(SC.add SC.nil K (rV (rV Xa)) v_0 a_0)) (σ:=[some v_0,none,none,none,none,none,none,none,none]) 2 ?_ (SC.i SC.t h_0) hm q rfl
 unfold QQ
 exact(XM (K:=K) (o:=(oL (oL (oF Xa)))) 1 0 (Qt (o:=(oL (oF Xa)))) (Nat.le_of_ble_eq_true rfl) λa1 v2 C3=>(Xp (K:=K) (r:=Xa) 2 (EvB.sh (Xg 0)) λa4 v5=>(Yr (K:=K) (J:=({oo:=λx6=>[x6.2.2.2.2.2.2.2.2,[]],ss:=λx6=>[some v_0,some x6.2.2.2.2.2.2.2.1,some x6.2.2.2.2.2.2.1,x6.1,x6.2.1,x6.2.2.1,x6.2.2.2.1,x6.2.2.2.2.1,x6.2.2.2.2.2.1],sc:=λg7 x6=>(SC.addO (SC.add (SC.add SC.nil K (rV (rV Xa)) v_0 a_0) K Xa x6.2.2.2.2.2.2.1 g7.1) K (oL (oL (oF Xa))) x6.2.2.2.2.2.2.2.1 g7.2 x6.2.2.2.2.2.2.2.2)}:Jn (Int×(List (List Int))) (Option V×Option V×Option V×Option V×Option V×Option V×V×V×List XH))) (λ_=>tg1 3) ((none),(none),(none),(none),(none),(none),v5,v2,C3) (a4,a1) (Xt (Xj (r:=(rV (rV Xa))) 0 rfl (λ_ s=>s.l.l.r))) rfl rfl (λ_ s=>(SC.i (SC.i (SC.i SC.t s.l.l.r) s.r) s.l.r)) (λg8 x9 a10 v11=>(Xp (K:=K) (r:=Xa) 4 (Xj (r:=Xa) 2 rfl (λ_ s=>s.l.l.r)) λa12 v13=>(Xp (K:=K) (r:=Xa) 5 (Xj (r:=Xa) 2 rfl (λ_ s=>s.l.l.l.r)) λa14 v15=>(Xp (K:=K) (r:=Xa) 6 (EvB.sh (ZS (Xg 1))) λa16 v17=>(Yr (K:=K) (J:=({oo:=λx21=>[x9.2.2.2.2.2.2.2.2,[]],ss:=λx21=>[some v_0,some x9.2.2.2.2.2.2.2.1,some x9.2.2.2.2.2.2.1,some v11,some v13,some v15,some x21.2,x21.1,x9.2.2.2.2.2.1],sc:=λg22 x21=>(SC.add (SC.add (SC.add (SC.add (SC.addO (SC.add (SC.add SC.nil K (rV (rV Xa)) v_0 a_0) K Xa x9.2.2.2.2.2.2.1 g8.1) K (oL (oL (oF Xa))) x9.2.2.2.2.2.2.2.1 g8.2 x9.2.2.2.2.2.2.2.2) K (rV Xa) v11 a10) K Xa v13 a12) K Xa v15 a14) K Xa x21.2 g22)}:Jn (Int) (Option V×V))) (λ_=>tg1 7) ((x9.2.2.2.2.1),v17) (a16) (XF (Ym (Xb (r:=(rV Xa)) 3 rfl (λ_ s=>s.l.l.l.r)))) rfl rfl (λ_ s=>(SC.i (SC.i (SC.i (SC.i (SC.i (SC.i (SC.i SC.t s.l.l.l.l.l.l.r) s.l.l.l.l.l.r) s.l.l.l.l.r) s.l.l.l.r) s.l.l.r) s.l.r) s.r)) (λg23 x24 a25 v26=>(Zl (J:=({oo:=λx32=>[x9.2.2.2.2.2.2.2.2,[]],ss:=λx32=>[some v_0,some x9.2.2.2.2.2.2.2.1,some x9.2.2.2.2.2.2.1,some v11,some v13,some v15,some x32,some v26,x9.2.2.2.2.2.1],sc:=λg33 x32=>(SC.add (SC.add (SC.add (SC.add (SC.add (SC.addO (SC.add (SC.add SC.nil K (rV (rV Xa)) v_0 a_0) K Xa x9.2.2.2.2.2.2.1 g8.1) K (oL (oL (oF Xa))) x9.2.2.2.2.2.2.2.1 g8.2 x9.2.2.2.2.2.2.2.2) K (rV Xa) v11 a10) K Xa v13 a12) K Xa v15 a14) K Xa v26 a25) K Xa x32 g33)}:Jn (Int) (V))) (Z1 (Fd:=FNd ({oo:=λx32=>[x9.2.2.2.2.2.2.2.2,[]],ss:=λx32=>[some v_0,some x9.2.2.2.2.2.2.2.1,some x9.2.2.2.2.2.2.1,some v11,some v13,some v15,some x32,some v26,x9.2.2.2.2.2.1],sc:=λg33 x32=>(SC.add (SC.add (SC.add (SC.add (SC.add (SC.addO (SC.add (SC.add SC.nil K (rV (rV Xa)) v_0 a_0) K Xa x9.2.2.2.2.2.2.1 g8.1) K (oL (oL (oF Xa))) x9.2.2.2.2.2.2.2.1 g8.2 x9.2.2.2.2.2.2.2.2) K (rV Xa) v11 a10) K Xa v13 a12) K Xa v15 a14) K Xa v26 a25) K Xa x32 g33)}:Jn (Int) (V))) (Xv (K:=K) (QJ (XE (Xb (r:=(rV Xa)) 3 rfl (λ_ s=>s.l.l.l.l.r)) (Xb (r:=Xa) 7 rfl (λ_ s=>s.r))) (Xg 0))) (Xp (K:=K) (r:=Xa) 6 (Xj (r:=Xa) 7 rfl (λ_ s=>s.r)) λa34 v35=>(Xu (J:=_) (v35) (a34) rfl rfl (λ_ s=>(SC.i (SC.i (SC.i (SC.i (SC.i (SC.i (SC.i (SC.i SC.t s.l.l.l.l.l.l.l.l.r) s.l.l.l.l.l.l.l.r) s.l.l.l.l.l.l.r) s.l.l.l.l.l.r) s.l.l.l.l.r) s.l.l.l.r) s.l.r) s.r)))) (Xu (J:=_) (x24.2) (g23) rfl rfl (λ_ s=>(SC.i (SC.i (SC.i (SC.i (SC.i (SC.i (SC.i (SC.i SC.t s.l.l.l.l.l.l.l.r) s.l.l.l.l.l.l.r) s.l.l.l.l.l.r) s.l.l.l.l.r) s.l.l.l.r) s.l.l.r) s.r) s.l.r)))) λg37 x36=>(Xu (J:=_) ((some v26),x36) (g37) rfl rfl (λ_ s=>(SC.i (SC.i (SC.i (SC.i (SC.i (SC.i (SC.i SC.t s.l.l.l.l.l.l.l.r) s.l.l.l.l.l.l.r) s.l.l.l.l.l.r) s.l.l.l.l.r) s.l.l.l.r) s.l.l.r) s.r))))) λg38 x39=>(XM (K:=K) (o:=(oL (oF Xa))) 8 1 (UV (Ev.ls (ZR (Xw (Xj (r:=Xa) 4 rfl (λ_ s=>s.l.l.r)) Zf))) (Kv (Ym (Xb (r:=(rV Xa)) 3 rfl (λ_ s=>s.l.l.l.r))) (Xg 1))) (Nat.le_of_ble_eq_true rfl) λa40 v41 C42=>(Yr (K:=K) (J:=({oo:=λx54=>[x9.2.2.2.2.2.2.2.2,x54.2.2.2.2],ss:=λx54=>[some v_0,some x9.2.2.2.2.2.2.2.1,some x54.2.2.1,some v11,some v13,some x54.2.2.2.1,some x39.2,x54.1,some x54.2.1],sc:=λg55 x54=>(SC.add (SC.add (SC.addO (SC.add (SC.add (SC.add (SC.addO (SC.add SC.nil K (rV (rV Xa)) v_0 a_0) K (oL (oL (oF Xa))) x9.2.2.2.2.2.2.2.1 g8.2 x9.2.2.2.2.2.2.2.2) K (rV Xa) v11 a10) K Xa v13 a12) K Xa x39.2 g38) K (oL (oF Xa)) x54.2.1 g55.1 x54.2.2.2.2) K Xa x54.2.2.1 g55.2.1) K Xa x54.2.2.2.1 g55.2.2)}:Jn ((List Int)×Int×Int) (Option V×V×V×V×List XH))) (λ_=>tg1 7) ((x39.1),v41,x9.2.2.2.2.2.2.1,v15,C42) (a40,g8.1,a14) (XF (XQ (Xb (r:=Xa) 6 rfl (λ_ s=>s.l.r)) (Xg 1))) rfl rfl (λ_ s=>(SC.i (SC.i (SC.i (SC.i (SC.i (SC.i (SC.i (SC.i SC.t s.l.l.l.l.l.l.l.r) s.l.l.l.l.l.r) s.l.l.l.l.r) s.l.l.l.r) s.l.r) s.r) s.l.l.l.l.l.l.r) s.l.l.r)) (λg56 x57 a58 v59=>(Qi (K:=K) (o:=(oF Xa)) 8 1 rfl rfl (λ_ s=>s.l.l.l.r) (EvS.ev (Xj (r:=Xa) 5 rfl (λ_ s=>s.l.r))) (λ_=>(Xb (r:=Xa) 7 rfl (λ_ s=>s.r))) λa62 C63=>(Zl (J:=({oo:=λx71=>[x9.2.2.2.2.2.2.2.2,C63],ss:=λx71=>[some v_0,some x9.2.2.2.2.2.2.2.1,some x71.1,some v11,some v13,some x71.2,some x39.2,some v59,some x57.2.1],sc:=λg72 x71=>(SC.add (SC.add (SC.add (SC.addO (SC.add (SC.add (SC.add (SC.addO (SC.add SC.nil K (rV (rV Xa)) v_0 a_0) K (oL (oL (oF Xa))) x9.2.2.2.2.2.2.2.1 g8.2 x9.2.2.2.2.2.2.2.2) K (rV Xa) v11 a10) K Xa v13 a12) K Xa x39.2 g38) K (oL (oF Xa)) x57.2.1 a62 C63) K Xa v59 a58) K Xa x71.1 g72.1) K Xa x71.2 g72.2)}:Jn (Int×Int) (V×V))) (Z1 (Fd:=FNd ({oo:=λx71=>[x9.2.2.2.2.2.2.2.2,C63],ss:=λx71=>[some v_0,some x9.2.2.2.2.2.2.2.1,some x71.1,some v11,some v13,some x71.2,some x39.2,some v59,some x57.2.1],sc:=λg72 x71=>(SC.add (SC.add (SC.add (SC.addO (SC.add (SC.add (SC.add (SC.addO (SC.add SC.nil K (rV (rV Xa)) v_0 a_0) K (oL (oL (oF Xa))) x9.2.2.2.2.2.2.2.1 g8.2 x9.2.2.2.2.2.2.2.2) K (rV Xa) v11 a10) K Xa v13 a12) K Xa x39.2 g38) K (oL (oF Xa)) x57.2.1 a62 C63) K Xa v59 a58) K Xa x71.1 g72.1) K Xa x71.2 g72.2)}:Jn (Int×Int) (V×V))) (BD (Xv (K:=K) (QJ (XE (Xb (r:=(rV Xa)) 3 rfl (λ_ s=>s.l.l.l.l.l.l.l.r)) (Xb (r:=Xa) 7 rfl (λ_ s=>s.l.r))) (Xg 0))) (Xv (K:=K) (QJ (Xb (r:=Xa) 7 rfl (λ_ s=>s.l.r)) (Xb (r:=Xa) 6 rfl (λ_ s=>s.l.l.l.l.l.r))))) (Xp (K:=K) (r:=Xa) 2 (EvB.sh (XQ (Xb (r:=Xa) 2 rfl (λ_ s=>s.l.l.l.r)) (Xg 1))) λa73 v74=>(Xp (K:=K) (r:=Xa) 5 (Xj (r:=Xa) 2 rfl (λ_ s=>s.r)) λa77 v78=>(Xu (J:=_) (v74,v78) (a73,a77) rfl rfl (λ_ s=>(SC.i (SC.i (SC.i (SC.i (SC.i (SC.i (SC.i (SC.i (SC.i SC.t s.l.l.l.l.l.l.l.l.l.l.l.r) s.l.l.l.l.l.l.l.l.l.l.r) s.l.l.l.l.l.l.l.l.l.r) s.l.l.l.l.l.l.l.l.r) s.l.l.l.l.l.l.l.r) s.l.l.r) s.l.l.l.r) s.l.r) s.r))))) (Xu (J:=_) (x57.2.2.1,x57.2.2.2.1) (g56.2.1,g56.2.2) rfl rfl (λ_ s=>(SC.i (SC.i (SC.i (SC.i (SC.i (SC.i (SC.i (SC.i (SC.i SC.t s.l.l.l.l.l.l.l.l.l.r) s.l.l.l.l.l.l.l.l.r) s.l.l.l.l.l.l.l.r) s.l.l.l.l.l.l.r) s.l.l.l.l.l.r) s.r) s.l.r) s.l.l.l.r) s.l.l.r)))) λg80 x79=>(Xu (J:=_) ((some v59),x57.2.1,x79.1,x79.2,C63) (a62,g80.1,g80.2) rfl rfl (λ_ s=>(SC.i (SC.i (SC.i (SC.i (SC.i (SC.i (SC.i (SC.i SC.t s.l.l.l.l.l.l.l.l.r) s.l.l.l.l.l.l.l.r) s.l.l.l.l.l.l.r) s.l.l.l.l.l.r) s.l.l.l.l.r) s.l.l.l.r) s.l.r) s.r)))))) λg81 x82=>(Xp (K:=K) (r:=Xa) 2 (EvB.sh (XQ (Xb (r:=Xa) 2 rfl (λ_ s=>s.l.r)) (Xg 1))) λa83 v84=>(Zy (K:=K) (o:=(oL (oF Xa))) (f:=λa89=>(Rs.ok (a83,a89))) 1 0 rfl rfl rfl (λ_ s=>s.l.l.l.l.l.l.l.r) (Yd (o:=(oL (oF Xa))) 8 1 rfl rfl (λ_ s=>s.l.l.l.r)) λa87 C88=>(Xu (J:=_) ((some v11),(some v13),(some x82.2.2.2.1),(some x39.2),(x82.1),(some x82.2.1),v84,x9.2.2.2.2.2.2.2.1,C88) (a83,(g8.2++[a87])) rfl rfl (λ_ s=>(SC.i (SC.i (SC.i SC.t s.l.l.l.l.l.l.l.l.l.r) s.l.r) s.r)))))))))))) λg92 x93=>(XB (Yd (o:=(oL (oL (oF Xa)))) 1 0 rfl rfl (λ_ s=>s.r))))))
theorem KR:FnScope ["_law_walks","_law_passage","_law_k"] ["_law_walks","_law_passage"] (Xi U8):=⟨rfl,rfl,rfl,by decide+kernel,rfl,by decide+kernel,by decide+kernel⟩
theorem BA (D:Def K mg "_law_spot" U8 ["_law_walks","_law_passage"])(Z:Blt mg):Fn P w K mg base 1 "_law_spot" ["_law_walks","_law_passage"] (sp2 (rV (rV Xa)) Xa (oF (rP2 Xa Xa)) Qj K):=by
 refine Yf D KR (λvs H Q E h=>?_) (λf cdv A outer s H vs Q E hr h=>?_)
 ·obtain⟨v_0,v_1,a_0,a_1,b,rfl,_⟩:=h;rfl
 obtain⟨v_0,v_1,a_0,a_1,b,rfl,h_0,h_1,hm,q⟩:=h
 have hu:=hu8 hr
 have hu1:=Yb hr
 refine⟨_,(Xc (X6 PassesOwn.never rfl (XR rfl Z.b_range (Xd (Xy (Xo K rfl) rfl Z.b_len PySem.boot_len (Xd (pv 0) Xe)) Xe)) (Xl (i:=2) KR.nd rfl (Or.inl rfl))
   (Xc (Zb (XI Gv (pv 1) (XJ (Xn K rfl) (pv 0) (pv 2) (λ_ _=>rfl)) rfl)
    (Xc (XC (ZF (Xd (pv 2) (Xd (Ig (K:=K) rfl PySem.F.plainAttrs_list PySem.F.slot_list_index PySem.F.type_list_index (KW K rfl) (XJ (Xn K rfl) (pv 0) (pv 2) (λ_ _=>rfl)) (Xd (pv 1) Xe)) Xe))))
    Xf)
    Xf)
   Xf))
  (Xc (XC (ZF (Xd (Up QG Xh) (Xd (Up QG Xh) Xe))))
  Xf)),?_⟩
 refine Yk (S:=(SC.add (SC.add SC.nil K (rV (rV Xa)) v_0 a_0) K Xa v_1 a_1)) (σ:=[some v_0,some v_1,none]) 0 ?_ (SC.i (SC.i SC.t h_0) h_1) hm q rfl
 unfold Qj
 exact(KG (K:=K) (J:=({oo:=λx3=>[],ss:=λx3=>[some v_0,some v_1,x3],sc:=λg4 x3=>(SC.add (SC.add SC.nil K (rV (rV Xa)) v_0 a_0) K Xa v_1 a_1)}:Jn (Unit) (Option V))) (λ_=>tg1 2) ((none)) () (XF (Ym (Xb (r:=(rV (rV Xa))) 0 rfl (λ_ s=>s.l.r)))) rfl rfl (λ_ s=>(SC.i (SC.i SC.t s.l.r) s.r)) (λg5 x6 a7 v8=>(VV (Xv (K:=K) (Ih (Xb (r:=Xa) 1 rfl (λ_ s=>s.l.r)) (XE (Xb (r:=(rV (rV Xa))) 0 rfl (λ_ s=>s.l.l.r)) (Xb (r:=Xa) 2 rfl (λ_ s=>s.r))))) (XB (EvS.ev (QU (Xj (r:=Xa) 2 rfl (λ_ s=>s.r)) (EvB.sh (Gr (XE (Xb (r:=(rV (rV Xa))) 0 rfl (λ_ s=>s.l.l.r)) (Xb (r:=Xa) 2 rfl (λ_ s=>s.r))) (Xb (r:=Xa) 1 rfl (λ_ s=>s.l.r))))))) (GC (Xu (J:=_) ((some v8)) () rfl rfl (λ_ s=>(SC.i (SC.i SC.t s.l.l.r) s.l.r)))))) λg22 x23=>(XB (EvS.ev (QU (EvB.sh (ZS (Xg 1))) (EvB.sh (ZS (Xg 1)))))))
theorem Yt:FnScope ["_law_drawing","_law_walks","_law_signs","_law_rows","_law_found","_law_crossing","_law_sign","_law_up","_law_at","_law_down","_law_to","_law_behind"] ["_law_drawing"] (Xi Ui):=⟨rfl,rfl,rfl,by decide+kernel,rfl,by decide+kernel,by decide+kernel⟩
theorem Du (D:Def K mg "_law_meets" Ui ["_law_drawing"])(g_l_arcs:Fn P w K mg base 1 "_law_arcs" ["_law_walks"] (sp1 (rV (rV Xa)) (oL (oL (oF Xa))) QQ K))(g_l_spot:Fn P w K mg base 1 "_law_spot" ["_law_walks","_law_passage"] (sp2 (rV (rV Xa)) Xa (oF (rP2 Xa Xa)) Qj K))(Z:Blt mg):Fn P w K mg base 2 "_law_meets" ["_law_drawing"] (sp1 (rP2 (rV (rV Xa)) (rV (rP2 Xa Xa))) (oL (oF (rP5 Xa Xa Xa Xa Xa))) ZW K):=by
 refine Yf D Yt (λvs H Q E h=>?_) (λf cdv A outer s H vs Q E hr h=>?_)
 ·obtain⟨v_0,a_0,b,rfl,_⟩:=h;rfl
 obtain⟨v_0,a_0,b,rfl,h_0,hm,q⟩:=h
 have hu:=hu8 hr
 have hu1:=Yb hr
 refine⟨_,(Xc (Q8 (pv 0) (QA rfl (Xs (Xl (i:=1) Yt.nd rfl (Or.inl rfl)) (Xs (Xl (i:=2) Yt.nd rfl (Or.inl rfl)) Y6))))
  (Xc (Xm (i:=3) Yt.nd rfl (Or.inl rfl) (XN g_l_arcs hr (by decide) (Xd (pv 1) Xe)))
  (Xc (Xm (i:=4) Yt.nd rfl (Or.inl rfl) (X1 Xe))
  (Xc (X6 PassesOwn.never rfl (XG (K:=K) rfl (pv 2)) (QA rfl (Xs (Xl (i:=5) Yt.nd rfl (Or.inl rfl)) (Xs (Xl (i:=6) Yt.nd rfl (Or.inl rfl)) Y6)))
   (Xc (Q8 (XN g_l_spot hr (by decide) (Xd (pv 1) (Xd (pv 5) Xe))) (QA rfl (Xs (Xl (i:=7) Yt.nd rfl (Or.inl rfl)) (Xs (Xl (i:=8) Yt.nd rfl (Or.inl rfl)) Y6))))
   (Xc (Q8 (XN g_l_spot hr (by decide) (Xd (pv 1) (Xd (Up QG (pv 5)) Xe))) (QA rfl (Xs (Xl (i:=9) Yt.nd rfl (Or.inl rfl)) (Xs (Xl (i:=10) Yt.nd rfl (Or.inl rfl)) Y6))))
   (Xc (Xm (i:=11) Yt.nd rfl (Or.inl rfl) (Xq Ya (Xq X9 (pv 10) Xh) (Xy (Xo K rfl) rfl Z.b_len PySem.boot_len (Xd (XJ (Xn K rfl) (pv 1) (pv 9) (λ_ _=>rfl)) Xe))))
   (Xc (Yl (ZP PySem.F.plainAttrs_list PySem.F.slot_list_append PySem.F.type_list_append XX (pv 4) (Xd (ZF (Xd (pv 5) (Xd (pv 6) (Xd (XJ (Xn K rfl) (XJ (Xn K rfl) (pv 3) (pv 7) (λ_ _=>rfl)) (pv 8) (λ_ _=>rfl)) (Xd (XJ (Xn K rfl) (XJ (Xn K rfl) (pv 3) (pv 9) (λ_ _=>rfl)) (pv 10) (λ_ _=>rfl)) (Xd (XJ (Xn K rfl) (XJ (Xn K rfl) (pv 3) (pv 9) (λ_ _=>rfl)) (pv 11) (λ_ _=>rfl)) Xe)))))) Xe)))
   Xf)))))
  (Xc (XC (pv 4))
  Xf))))),?_⟩
 refine Yk (S:=(SC.add SC.nil K (rP2 (rV (rV Xa)) (rV (rP2 Xa Xa))) v_0 a_0)) (σ:=[some v_0,none,none,none,none,none,none,none,none,none,none,none]) 1 ?_ (SC.i SC.t h_0) hm q rfl
 unfold ZW
 exact(BI 1 2 (Xj (r:=(rP2 (rV (rV Xa)) (rV (rP2 Xa Xa)))) 0 rfl (λ_ s=>s.r)) λa1 v2 v3=>(Xp (K:=K) (r:=(rV (rV Xa))) 3 (Ev.sh (X3 (Xb (r:=(rV (rV Xa))) 1 rfl (λ_ s=>s.l.r)))) λa4 v5=>(XM (K:=K) (o:=(oL (oF (rP5 Xa Xa Xa Xa Xa)))) 4 0 (Qt (o:=(oF (rP5 Xa Xa Xa Xa Xa)))) (Nat.le_of_ble_eq_true rfl) λa8 v9 C10=>(Yr (K:=K) (J:=({oo:=λx11=>[x11.2.2.2.2.2.2.2.2],ss:=λx11=>[some v_0,some v2,some v3,some v5,some x11.2.2.2.2.2.2.2.1,x11.1,x11.2.1,x11.2.2.1,x11.2.2.2.1,x11.2.2.2.2.1,x11.2.2.2.2.2.1,x11.2.2.2.2.2.2.1],sc:=λg12 x11=>(SC.addO (SC.add (SC.add (SC.add (SC.add SC.nil K (rP2 (rV (rV Xa)) (rV (rP2 Xa Xa))) v_0 a_0) K (rV (rV Xa)) v2 a1.1) K (rV (rP2 Xa Xa)) v3 a1.2) K (rV (rV Xa)) v5 a4) K (oL (oF (rP5 Xa Xa Xa Xa Xa))) x11.2.2.2.2.2.2.2.1 g12 x11.2.2.2.2.2.2.2.2)}:Jn ((List (Int×Int×Int×Int×Int))) (Option V×Option V×Option V×Option V×Option V×Option V×Option V×V×List XH))) (λ_=>tg2 5 6) ((none),(none),(none),(none),(none),(none),(none),v9,C10) (a8) (Xt (Xj (r:=(rV (rP2 Xa Xa))) 2 rfl (λ_ s=>s.l.l.r))) rfl rfl (λ_ s=>(SC.i (SC.i (SC.i (SC.i (SC.i SC.t s.l.l.l.l.r) s.l.l.l.r) s.l.l.r) s.l.r) s.r)) (λg13 x14 a15 v16=>(BI 7 8 (EvB.sh (Ev.toB (XT (Xb (r:=(rV (rV Xa))) 1 rfl (λ_ s=>s.l.l.l.l.l.r)) (Xb (r:=Xa) 5 rfl (λ_ s=>s.l.r))))) λa20 v21 v22=>(BI 9 10 (EvB.sh (Ev.toB (XT (Xb (r:=(rV (rV Xa))) 1 rfl (λ_ s=>s.l.l.l.l.l.l.l.r)) (ZS (Xb (r:=Xa) 5 rfl (λ_ s=>s.l.l.l.r)))))) λa27 v28 v29=>(Xp (K:=K) (r:=Xa) 11 (EvB.sh (XO (XQ (Xb (r:=Xa) 10 rfl (λ_ s=>s.r)) (Xg 1)) (Ym (XE (Xb (r:=(rV (rV Xa))) 1 rfl (λ_ s=>s.l.l.l.l.l.l.l.l.l.r)) (Xb (r:=Xa) 9 rfl (λ_ s=>s.l.r)))))) λa30 v31=>(Zy (K:=K) (o:=(oF (rP5 Xa Xa Xa Xa Xa))) (f:=λa58=>(Rs.ok (a58))) 4 0 rfl rfl rfl (λ_ s=>s.l.l.l.l.l.l.l.r) (EvS.ev (Fz (Xj (r:=Xa) 5 rfl (λ_ s=>s.l.l.l.l.l.l.r)) (Xj (r:=Xa) 6 rfl (λ_ s=>s.l.l.l.l.l.r)) (EvB.sh (XE (XE (Xb (r:=(rV (rV Xa))) 3 rfl (λ_ s=>s.l.l.l.l.l.l.l.l.r)) (Xb (r:=Xa) 7 rfl (λ_ s=>s.l.l.l.l.r))) (Xb (r:=Xa) 8 rfl (λ_ s=>s.l.l.l.r)))) (EvB.sh (XE (XE (Xb (r:=(rV (rV Xa))) 3 rfl (λ_ s=>s.l.l.l.l.l.l.l.l.r)) (Xb (r:=Xa) 9 rfl (λ_ s=>s.l.l.r))) (Xb (r:=Xa) 10 rfl (λ_ s=>s.l.r)))) (EvB.sh (XE (XE (Xb (r:=(rV (rV Xa))) 3 rfl (λ_ s=>s.l.l.l.l.l.l.l.l.r)) (Xb (r:=Xa) 9 rfl (λ_ s=>s.l.l.r))) (Xb (r:=Xa) 11 rfl (λ_ s=>s.r)))))) λa56 C57=>(Xu (J:=_) ((some v16.1),(some v16.2),(some v21),(some v22),(some v28),(some v29),(some v31),x14.2.2.2.2.2.2.2.1,C57) ((g13++[a56])) rfl rfl (λ_ s=>(SC.i (SC.i (SC.i (SC.i (SC.i SC.t s.l.l.l.l.l.l.l.l.l.l.l.l.r) s.l.l.l.l.l.l.l.l.l.l.l.r) s.l.l.l.l.l.l.l.l.l.l.r) s.l.l.l.l.l.l.l.l.l.r) s.r)))))))) λg59 x60=>(XB (Yd (o:=(oL (oF (rP5 Xa Xa Xa Xa Xa)))) 4 0 rfl rfl (λ_ s=>s.r)))))))
theorem VH:FnScope ["_law_drawing","_law_count_here","_law_walk"] ["_law_drawing"] (Xi KD):=⟨rfl,rfl,rfl,by decide+kernel,rfl,by decide+kernel,by decide+kernel⟩
theorem Hu (D:Def K mg "_law_count" KD ["_law_drawing"])(Z:Blt mg):Fn P w K mg base 1 "_law_count" ["_law_drawing"] (sp1 (rP2 (rV (rV Xa)) (rV (rP2 Xa Xa))) (oF Xa) Qk K):=by
 refine Yf D VH (λvs H Q E h=>?_) (λf cdv A outer s H vs Q E hr h=>?_)
 ·obtain⟨v_0,a_0,b,rfl,_⟩:=h;rfl
 obtain⟨v_0,a_0,b,rfl,h_0,hm,q⟩:=h
 have hu:=hu8 hr
 have hu1:=Yb hr
 refine⟨_,(Xc (Xm (i:=1) VH.nd rfl (Or.inl rfl) (Xy (Xo K rfl) rfl Z.b_len PySem.boot_len (Xd (XJ (Y4 K rfl) (pv 0) Xh (λ_ _=>rfl)) Xe)))
  (Xc (X6 PassesOwn.never rfl (XG (K:=K) rfl (XJ (Y4 K rfl) (pv 0) Xh (λ_ _=>rfl))) (Xl (i:=2) VH.nd rfl (Or.inl rfl))
   (Xc (Zb (XI UH (Xy (Xo K rfl) rfl Z.b_len PySem.boot_len (Xd (Yp (sc:=(Xi KD)) (N0:=["_law_drawing","_law_count_here","_law_walk"]) (tns:=["_law_one"]) (caps:=[]) rfl (XG (K:=K) rfl (pv 2)) (YL (by decide)) (λcl C s H ex E=>⟨Xl (i:=0) (show List.Nodup (["_law_one"]:List Str) by decide+kernel) rfl (Or.inl rfl),(JU (XI Uo (pv 0) Xh (XW _))),(pv 0)⟩)) Xe)) Xh (XW _))
    (Xc (Xm (i:=1) VH.nd rfl (Or.inl rfl) (Xq X9 (pv 1) Xh))
    Xf)
    Xf)
   Xf))
  (Xc (XC (pv 1))
  Xf))),?_⟩
 refine Yk (S:=(SC.add SC.nil K (rP2 (rV (rV Xa)) (rV (rP2 Xa Xa))) v_0 a_0)) (σ:=[some v_0,none,none]) 0 ?_ (SC.i SC.t h_0) hm q rfl
 unfold Qk
 exact(Xp (K:=K) (r:=Xa) 1 (EvB.sh (Ym (Uf (Xb (r:=(rP2 (rV (rV Xa)) (rV (rP2 Xa Xa)))) 0 rfl (λ_ s=>s.r))))) λa1 v2=>(Yr (K:=K) (J:=({oo:=λx6=>[],ss:=λx6=>[some v_0,some x6.2,x6.1],sc:=λg7 x6=>(SC.add (SC.add SC.nil K (rP2 (rV (rV Xa)) (rV (rP2 Xa Xa))) v_0 a_0) K Xa x6.2 g7)}:Jn (Int) (Option V×V))) (λ_=>tg1 2) ((none),v2) (a1) (Xt (Vc (Xj (r:=(rP2 (rV (rV Xa)) (rV (rP2 Xa Xa)))) 0 rfl (λ_ s=>s.l.r)))) rfl rfl (λ_ s=>(SC.i (SC.i SC.t s.l.r) s.r)) (λg8 x9 a10 v11=>(Zl (J:=({oo:=λx22=>[],ss:=λx22=>[some v_0,some x22,some v11],sc:=λg23 x22=>(SC.add (SC.add (SC.add SC.nil K (rP2 (rV (rV Xa)) (rV (rP2 Xa Xa))) v_0 a_0) K (rV Xa) v11 a10) K Xa x22 g23)}:Jn (Int) (V))) (Z1 (Fd:=FNd ({oo:=λx22=>[],ss:=λx22=>[some v_0,some x22,some v11],sc:=λg23 x22=>(SC.add (SC.add (SC.add SC.nil K (rP2 (rV (rV Xa)) (rV (rP2 Xa Xa))) v_0 a_0) K (rV Xa) v11 a10) K Xa x22 g23)}:Jn (Int) (V))) (Xv (K:=K) (Q5 (Ym (Ev.toB (QS (λ_=>tg1 0) (Xt (Xj (r:=(rV Xa)) 2 rfl (λ_ s=>s.r))) (λC12 a13 v14=>(Xv (K:=K) (QJ (Xb (r:=Xa) 0 rfl (λ_ s=>s.r)) (Xg 0)))) (λC12 a13 v14=>(EvS.ev (Xj (r:=Xa) 0 rfl (λ_ s=>s.r))))))) (Xg 0))) (Xp (K:=K) (r:=Xa) 1 (EvB.sh (XQ (Xb (r:=Xa) 1 rfl (λ_ s=>s.l.r)) (Xg 1))) λa24 v25=>(Xu (J:=_) (v25) (a24) rfl rfl (λ_ s=>(SC.i (SC.i (SC.i SC.t s.l.l.l.r) s.l.r) s.r)))) (Xu (J:=_) (x9.2) (g8) rfl rfl (λ_ s=>(SC.i (SC.i (SC.i SC.t s.l.l.r) s.r) s.l.r)))) λg29 x28=>(Xu (J:=_) ((some v11),x28) (g29) rfl rfl (λ_ s=>(SC.i (SC.i SC.t s.l.l.r) s.r))))) λg30 x31=>(XB (EvS.ev (Xj (r:=Xa) 1 rfl (λ_ s=>s.r))))))
theorem XV:FnScope ["_law_drawing","_law_prime","_law_factor","_law_found","_law_crossing","_law_sign","_law_over","_law_inward","_law_outward","_law_one","_law_other","_law_line"] ["_law_drawing","_law_prime","_law_factor"] (Xi ZH):=⟨rfl,rfl,rfl,by decide+kernel,rfl,by decide+kernel,by decide+kernel⟩
theorem UG (D:Def K mg "_law_equations" ZH ["_law_drawing","_law_prime","_law_factor"])(g_l_meets:Fn P w K mg base 2 "_law_meets" ["_law_drawing"] (sp1 (rP2 (rV (rV Xa)) (rV (rP2 Xa Xa))) (oL (oF (rP5 Xa Xa Xa Xa Xa))) ZW K))(g_count:Fn P w K mg base 1 "_law_count" ["_law_drawing"] (sp1 (rP2 (rV (rV Xa)) (rV (rP2 Xa Xa))) (oF Xa) Qk K))(Z:Blt mg):Fn P w K mg base 3 "_law_equations" ["_law_drawing","_law_prime","_law_factor"] (sp3 (rP2 (rV (rV Xa)) (rV (rP2 Xa Xa))) Xa Xa (oL (oL (oF Xa))) Y7 K):=by
 refine Yf D XV (λvs H Q E h=>?_) (λf cdv A outer s H vs Q E hr h=>?_)
 ·obtain⟨v_0,v_1,v_2,a_0,a_1,a_2,b,rfl,_⟩:=h;rfl
 obtain⟨v_0,v_1,v_2,a_0,a_1,a_2,b,rfl,h_0,h_1,h_2,hm,q⟩:=h
 have hu:=hu8 hr
 have hu1:=Yb hr
 refine⟨_,(Xc (Xm (i:=3) XV.nd rfl (Or.inl rfl) (X1 Xe))
  (Xc (X6 PassesOwn.never rfl (XG (K:=K) rfl (XN g_l_meets hr (by decide) (Xd (pv 0) Xe))) (QA rfl (Xs (Xl (i:=4) XV.nd rfl (Or.inl rfl)) (Xs (Xl (i:=5) XV.nd rfl (Or.inl rfl)) (Xs (Xl (i:=6) XV.nd rfl (Or.inl rfl)) (Xs (Xl (i:=7) XV.nd rfl (Or.inl rfl)) (Xs (Xl (i:=8) XV.nd rfl (Or.inl rfl)) Y6))))))
   (Xc (Iu (i:=9) (j:=10) rfl XV.nd rfl rfl (by decide) rfl rfl (Xd (pv 7) (Xd (pv 8) Xe)) rfl)
   (Xc (Zb (XI Uo (pv 5) Xh (XW _))
    (Xc (Iu (i:=9) (j:=10) rfl XV.nd rfl rfl (by decide) rfl rfl (Xd (pv 8) (Xd (pv 7) Xe)) rfl)
    Xf)
    Xf)
   (Xc (Xm (i:=11) XV.nd rfl (Or.inl rfl) (Xq U0 (X1 (Xd Xh Xe)) (XN g_count hr (by decide) (Xd (pv 0) Xe))))
   (Xc (Q8 (Xq X9 (XJ (Xn K rfl) (pv 11) (pv 9) (λ_ _=>rfl)) (pv 2)) (Uu (pv 11) (pv 9) Zv))
   (Xc (Q8 (Xq JL (Xq X9 (XJ (Xn K rfl) (pv 11) (pv 6) (λ_ _=>rfl)) Xh) (pv 2)) (Uu (pv 11) (pv 6) Zv))
   (Xc (Q8 (Xq JL (XJ (Xn K rfl) (pv 11) (pv 10) (λ_ _=>rfl)) Xh) (Uu (pv 11) (pv 10) Zv))
   (Xc (Yl (ZP PySem.F.plainAttrs_list PySem.F.slot_list_append PySem.F.type_list_append XX (pv 3) (Xd (Yp (sc:=(Xi ZH)) (N0:=["_law_drawing","_law_prime","_law_factor","_law_found","_law_crossing","_law_sign","_law_over","_law_inward","_law_outward","_law_one","_law_other","_law_line"]) (tns:=["_law_number"]) (caps:=[(1,"_law_prime")]) rfl (XG (K:=K) rfl (pv 11)) (YL (by decide)) (λcl C s H ex E=>⟨Xl (i:=0) (show List.Nodup (["_law_number","_law_prime"]:List Str) by decide+kernel) rfl (Or.inl rfl),YD,(Xq Ya (pv 0) (pv 1))⟩)) Xe)))
   Xf))))))))
  (Xc (XC (pv 3))
  Xf))),?_⟩
 refine Yk (S:=(SC.add (SC.add (SC.add SC.nil K (rP2 (rV (rV Xa)) (rV (rP2 Xa Xa))) v_0 a_0) K Xa v_1 a_1) K Xa v_2 a_2)) (σ:=[some v_0,some v_1,some v_2,none,none,none,none,none,none,none,none,none]) 2 ?_ (SC.i (SC.i (SC.i SC.t h_0) h_1) h_2) hm q rfl
 unfold Y7
 exact(XM (K:=K) (o:=(oL (oL (oF Xa)))) 3 0 (Qt (o:=(oL (oF Xa)))) (Nat.le_of_ble_eq_true rfl) λa1 v2 C3=>(Yr (K:=K) (J:=({oo:=λx6=>[x6.2.2.2.2.2.2.2.2.2,[]],ss:=λx6=>[some v_0,some v_1,some v_2,some x6.2.2.2.2.2.2.2.2.1,x6.1,x6.2.1,x6.2.2.1,x6.2.2.2.1,x6.2.2.2.2.1,x6.2.2.2.2.2.1,x6.2.2.2.2.2.2.1,x6.2.2.2.2.2.2.2.1],sc:=λg7 x6=>(SC.addO (SC.add (SC.add (SC.add SC.nil K (rP2 (rV (rV Xa)) (rV (rP2 Xa Xa))) v_0 a_0) K Xa v_1 a_1) K Xa v_2 a_2) K (oL (oL (oF Xa))) x6.2.2.2.2.2.2.2.2.1 g7 x6.2.2.2.2.2.2.2.2.2)}:Jn ((List (List Int))) (Option V×Option V×Option V×Option V×Option V×Option V×Option V×Option V×V×List XH))) (λ_=>tg5 4 5 6 7 8) ((none),(none),(none),(none),(none),(none),(none),(none),v2,C3) (a1) (Xt (Ev.sh (X3 (Xb (r:=(rP2 (rV (rV Xa)) (rV (rP2 Xa Xa)))) 0 rfl (λ_ s=>s.l.l.l.r))))) rfl rfl (λ_ s=>(SC.i (SC.i (SC.i (SC.i SC.t s.l.l.l.r) s.l.l.r) s.l.r) s.r)) (λg8 x9 a10 v11=>(II (K:=K) 9 10 (Xj (r:=Xa) 7 rfl (λ_ s=>s.l.r)) (Xj (r:=Xa) 8 rfl (λ_ s=>s.r)) λa12 a13 v14 v15=>(Zl (J:=({oo:=λx19=>[x9.2.2.2.2.2.2.2.2.2,[]],ss:=λx19=>[some v_0,some v_1,some v_2,some x9.2.2.2.2.2.2.2.2.1,some v11.1,some v11.2.1,some v11.2.2.1,some v11.2.2.2.1,some v11.2.2.2.2,some x19.1,some x19.2,x9.2.2.2.2.2.2.2.1],sc:=λg20 x19=>(SC.add (SC.add (SC.add (SC.add (SC.add (SC.add (SC.add (SC.addO (SC.add (SC.add (SC.add SC.nil K (rP2 (rV (rV Xa)) (rV (rP2 Xa Xa))) v_0 a_0) K Xa v_1 a_1) K Xa v_2 a_2) K (oL (oL (oF Xa))) x9.2.2.2.2.2.2.2.2.1 g8 x9.2.2.2.2.2.2.2.2.2) K Xa v11.1 a10.1) K Xa v11.2.1 a10.2.1) K Xa v11.2.2.1 a10.2.2.1) K Xa v11.2.2.2.1 a10.2.2.2.1) K Xa v11.2.2.2.2 a10.2.2.2.2) K Xa x19.1 g20.1) K Xa x19.2 g20.2)}:Jn (Int×Int) (V×V))) (Z1 (Fd:=FNd ({oo:=λx19=>[x9.2.2.2.2.2.2.2.2.2,[]],ss:=λx19=>[some v_0,some v_1,some v_2,some x9.2.2.2.2.2.2.2.2.1,some v11.1,some v11.2.1,some v11.2.2.1,some v11.2.2.2.1,some v11.2.2.2.2,some x19.1,some x19.2,x9.2.2.2.2.2.2.2.1],sc:=λg20 x19=>(SC.add (SC.add (SC.add (SC.add (SC.add (SC.add (SC.add (SC.addO (SC.add (SC.add (SC.add SC.nil K (rP2 (rV (rV Xa)) (rV (rP2 Xa Xa))) v_0 a_0) K Xa v_1 a_1) K Xa v_2 a_2) K (oL (oL (oF Xa))) x9.2.2.2.2.2.2.2.2.1 g8 x9.2.2.2.2.2.2.2.2.2) K Xa v11.1 a10.1) K Xa v11.2.1 a10.2.1) K Xa v11.2.2.1 a10.2.2.1) K Xa v11.2.2.2.1 a10.2.2.2.1) K Xa v11.2.2.2.2 a10.2.2.2.2) K Xa x19.1 g20.1) K Xa x19.2 g20.2)}:Jn (Int×Int) (V×V))) (Xv (K:=K) (QJ (Xb (r:=Xa) 5 rfl (λ_ s=>s.l.l.l.l.l.r)) (Xg 0))) (II (K:=K) 9 10 (Xj (r:=Xa) 8 rfl (λ_ s=>s.l.l.r)) (Xj (r:=Xa) 7 rfl (λ_ s=>s.l.l.l.r)) λa21 a22 v23 v24=>(Xu (J:=_) (v23,v24) (a21,a22) rfl rfl (λ_ s=>(SC.i (SC.i (SC.i (SC.i (SC.i (SC.i (SC.i (SC.i (SC.i (SC.i (SC.i SC.t s.l.l.l.l.l.l.l.l.l.l.l.l.r) s.l.l.l.l.l.l.l.l.l.l.l.r) s.l.l.l.l.l.l.l.l.l.l.r) s.l.l.l.l.l.l.l.l.l.r) s.l.l.l.l.l.l.l.l.r) s.l.l.l.l.l.l.l.r) s.l.l.l.l.l.l.r) s.l.l.l.l.l.r) s.l.l.l.l.r) s.l.r) s.r)))) (Xu (J:=_) (v14,v15) (a12,a13) rfl rfl (λ_ s=>(SC.i (SC.i (SC.i (SC.i (SC.i (SC.i (SC.i (SC.i (SC.i (SC.i (SC.i SC.t s.l.l.l.l.l.l.l.l.l.l.r) s.l.l.l.l.l.l.l.l.l.r) s.l.l.l.l.l.l.l.l.r) s.l.l.l.l.l.l.l.r) s.l.l.l.l.l.l.r) s.l.l.l.l.l.r) s.l.l.l.l.r) s.l.l.l.r) s.l.l.r) s.l.r) s.r)))) λg26 x25=>(XM (K:=K) (o:=(oL (oF Xa))) 11 1 (UV (Ev.ls (ZR (Xw (EvB.sh (Xg 0)) Zf))) (Ev.toB (X3 (Xb (r:=(rP2 (rV (rV Xa)) (rV (rP2 Xa Xa)))) 0 rfl (λ_ s=>s.l.l.l.l.l.l.l.l.l.l.r))))) (Nat.le_of_ble_eq_true rfl) λa27 v28 C29=>(Qi (K:=K) (o:=(oF Xa)) 11 1 rfl rfl (λ_ s=>s.r) (EvS.ev (EvB.sh (XQ (XE (YY (o:=(oL (oF Xa))) 11 1 rfl rfl (λ_ s=>s.r)) (Xb (r:=Xa) 9 rfl (λ_ s=>s.l.l.r))) (Xb (r:=Xa) 2 rfl (λ_ s=>s.l.l.l.l.l.l.l.l.l.r))))) (λ_=>(Xb (r:=Xa) 9 rfl (λ_ s=>s.l.l.r))) λa43 C44=>(Qi (K:=K) (o:=(oF Xa)) 11 1 rfl rfl (λ_ s=>s.r) (EvS.ev (EvB.sh (Qn (XQ (XE (YY (o:=(oL (oF Xa))) 11 1 rfl rfl (λ_ s=>s.r)) (Xb (r:=Xa) 6 rfl (λ_ s=>s.l.l.l.l.l.l.r))) (Xg 1)) (Xb (r:=Xa) 2 rfl (λ_ s=>s.l.l.l.l.l.l.l.l.l.l.r))))) (λ_=>(Xb (r:=Xa) 6 rfl (λ_ s=>s.l.l.l.l.l.l.r))) λa53 C54=>(Qi (K:=K) (o:=(oF Xa)) 11 1 rfl rfl (λ_ s=>s.r) (EvS.ev (EvB.sh (Qn (XE (YY (o:=(oL (oF Xa))) 11 1 rfl rfl (λ_ s=>s.r)) (Xb (r:=Xa) 10 rfl (λ_ s=>s.l.l.l.r))) (Xg 1)))) (λ_=>(Xb (r:=Xa) 10 rfl (λ_ s=>s.l.l.l.r))) λa61 C62=>(Zy (K:=K) (o:=(oL (oF Xa))) (f:=λa71=>(Rs.ok (a71))) 3 0 rfl rfl rfl (λ_ s=>s.l.l.l.l.l.l.l.l.l.l.l.r) (V0 (K:=K) (o1:=(oL (oF Xa))) 1 rfl (λ_ s=>s.r) (YC (λ_=>tg1 0) (Xt (Xj (r:=(rV Xa)) 11 rfl (λ_ s=>s.r))) (λC63 a64 v65=>(EvS.ev (EvB.sh (XO (Xb (r:=Xa) 0 rfl (λ_ s=>s.r)) (Xb (r:=Xa) 1 rfl (λ_ s=>s.l.l.l.l.l.l.l.l.l.l.l.l.l.l.l.r)))))))) λa69 C70=>(GJ 1 (Xu (J:=_) ((some v11.1),(some v11.2.1),(some v11.2.2.1),(some v11.2.2.2.1),(some v11.2.2.2.2),(some x25.1),(some x25.2),(some v28),x9.2.2.2.2.2.2.2.2.1,C70) ((g8++[a69])) rfl rfl (λ_ s=>(SC.i (SC.i (SC.i (SC.i SC.t s.l.l.l.l.l.l.l.l.l.l.l.l.l.l.l.r) s.l.l.l.l.l.l.l.l.l.l.l.l.l.l.r) s.l.l.l.l.l.l.l.l.l.l.l.l.l.r) s.r)))))))))))) λg72 x73=>(XB (Yd (o:=(oL (oL (oF Xa)))) 3 0 rfl rfl (λ_ s=>s.r)))))
theorem MZ:FnScope ["_law_line","_law_colours"] ["_law_line","_law_colours"] (Xi Hk):=⟨rfl,rfl,rfl,by decide+kernel,rfl,by decide+kernel,by decide+kernel⟩
theorem MJ (D:Def K mg "_law_sum" Hk ["_law_line","_law_colours"])(Z:Blt mg):Fn P w K mg base 1 "_law_sum" ["_law_line","_law_colours"] (sp2 (rV Xa) (rV Xa) (oF Xa) DT K):=by
 refine Yf D MZ (λvs H Q E h=>?_) (λf cdv A outer s H vs Q E hr h=>?_)
 ·obtain⟨v_0,v_1,a_0,a_1,b,rfl,_⟩:=h;rfl
 obtain⟨v_0,v_1,a_0,a_1,b,rfl,h_0,h_1,hm,q⟩:=h
 have hu:=hu8 hr
 have hu1:=Yb hr
 refine⟨_,(Xc (XC (Xy (Ud rfl) rfl Z.b_sum PyProof.Rows.boot_sum (Xd (Yp (sc:=(Xi Hk)) (N0:=["_law_line","_law_colours"]) (tns:=["_law_k"]) (caps:=[(0,"_law_line"),(1,"_law_colours")]) rfl (XR rfl Z.b_range (Xd (Xy (Xo K rfl) rfl Z.b_len PySem.boot_len (Xd (pv 0) Xe)) Xe)) (YL (by decide)) (λcl C s H ex E=>⟨Xl (i:=0) (show List.Nodup (["_law_k","_law_line","_law_colours"]:List Str) by decide+kernel) rfl (Or.inl rfl),YD,(Xq Yz (XJ (Xn K rfl) (pv 1) (pv 0) (λ_ _=>rfl)) (XJ (Xn K rfl) (pv 2) (pv 0) (λ_ _=>rfl)))⟩)) Xe)))
  Xf),?_⟩
 refine Yk (S:=(SC.add (SC.add SC.nil K (rV Xa) v_0 a_0) K (rV Xa) v_1 a_1)) (σ:=[some v_0,some v_1]) 0 ?_ (SC.i (SC.i SC.t h_0) h_1) hm q rfl
 unfold DT
 exact(XB (EvS.ev (EvB.sh (Fj (Ev.toB (YC (λ_=>tg1 0) (XF (Ym (Xb (r:=(rV Xa)) 0 rfl (λ_ s=>s.l.r)))) (λC4 a5 v6=>(EvS.ev (EvB.sh (XZ (XE (Xb (r:=(rV Xa)) 1 rfl (λ_ s=>s.l.l.r)) (Xb (r:=Xa) 0 rfl (λ_ s=>s.r))) (XE (Xb (r:=(rV Xa)) 2 rfl (λ_ s=>s.l.r)) (Xb (r:=Xa) 0 rfl (λ_ s=>s.r)))))))))))))
theorem CF:FnScope ["_law_lines","_law_colours","_law_prime","_law_line"] ["_law_lines","_law_colours","_law_prime"] (Xi Eg):=⟨rfl,rfl,rfl,by decide+kernel,rfl,by decide+kernel,by decide+kernel⟩
theorem Lh (D:Def K mg "_law_kept" Eg ["_law_lines","_law_colours","_law_prime"])(g_sum:Fn P w K mg base 1 "_law_sum" ["_law_line","_law_colours"] (sp2 (rV Xa) (rV Xa) (oF Xa) DT K))(Z:Blt mg):Fn P w K mg base 2 "_law_kept" ["_law_lines","_law_colours","_law_prime"] (sp3 (rV (rV Xa)) (rV Xa) Xa (oF X0) U1 K):=by
 refine Yf D CF (λvs H Q E h=>?_) (λf cdv A outer s H vs Q E hr h=>?_)
 ·obtain⟨v_0,v_1,v_2,a_0,a_1,a_2,b,rfl,_⟩:=h;rfl
 obtain⟨v_0,v_1,v_2,a_0,a_1,a_2,b,rfl,h_0,h_1,h_2,hm,q⟩:=h
 have hu:=hu8 hr
 have hu1:=Yb hr
 refine⟨_,(Xc (X6 PassesOwn.never rfl (XG (K:=K) rfl (pv 0)) (Xl (i:=3) CF.nd rfl (Or.inl rfl))
   (Xc (Zb (XI Dz (Xq Ya (XN g_sum hr (by decide) (Xd (pv 3) (Xd (pv 1) Xe))) (pv 2)) Xh (XW _))
    (Xc (XC QE)
    Xf)
    Xf)
   Xf))
  (Xc (XC QE)
  Xf)),?_⟩
 refine Yk (S:=(SC.add (SC.add (SC.add SC.nil K (rV (rV Xa)) v_0 a_0) K (rV Xa) v_1 a_1) K Xa v_2 a_2)) (σ:=[some v_0,some v_1,some v_2,none]) 0 ?_ (SC.i (SC.i (SC.i SC.t h_0) h_1) h_2) hm q rfl
 unfold U1
 exact(KG (K:=K) (J:=({oo:=λx1=>[],ss:=λx1=>[some v_0,some v_1,some v_2,x1],sc:=λg2 x1=>(SC.add (SC.add (SC.add SC.nil K (rV (rV Xa)) v_0 a_0) K (rV Xa) v_1 a_1) K Xa v_2 a_2)}:Jn (Unit) (Option V))) (λ_=>tg1 3) ((none)) () (Xt (Xj (r:=(rV (rV Xa))) 0 rfl (λ_ s=>s.l.l.r))) rfl rfl (λ_ s=>(SC.i (SC.i (SC.i SC.t s.l.l.r) s.l.r) s.r)) (λg3 x4 a5 v6=>(VV (Xv (K:=K) (UL (XO (Ev.toB (XT (Xb (r:=(rV Xa)) 3 rfl (λ_ s=>s.r)) (Xb (r:=(rV Xa)) 1 rfl (λ_ s=>s.l.l.r)))) (Xb (r:=Xa) 2 rfl (λ_ s=>s.l.r))) (Xg 0))) (XB (EvS.ev (EvB.sh (ZE false)))) (GC (Xu (J:=_) ((some v6)) () rfl rfl (λ_ s=>(SC.i (SC.i (SC.i SC.t s.l.l.l.r) s.l.l.r) s.l.r)))))) λg17 x18=>(XB (EvS.ev (EvB.sh (ZE true)))))
theorem Qs:FnScope ["_law_lines","_law_count_here","_law_prime","_law_found","_law_k","_law_longer","_law_colours","_law_colour"] ["_law_lines","_law_count_here","_law_prime"] (Xi Ks):=⟨rfl,rfl,rfl,by decide+kernel,rfl,by decide+kernel,by decide+kernel⟩
theorem EW (D:Def K mg "_law_tried" Ks ["_law_lines","_law_count_here","_law_prime"])(g_kept:Fn P w K mg base 2 "_law_kept" ["_law_lines","_law_colours","_law_prime"] (sp3 (rV (rV Xa)) (rV Xa) Xa (oF X0) U1 K))(Z:Blt mg):Fn P w K mg base 3 "_law_tried" ["_law_lines","_law_count_here","_law_prime"] (sp3 (rV (rV Xa)) Xa Xa (oF Xa) Ji K):=by
 refine Yf D Qs (λvs H Q E h=>?_) (λf cdv A outer s H vs Q E hr h=>?_)
 ·obtain⟨v_0,v_1,v_2,a_0,a_1,a_2,b,rfl,_⟩:=h;rfl
 obtain⟨v_0,v_1,v_2,a_0,a_1,a_2,b,rfl,h_0,h_1,h_2,hm,q⟩:=h
 have hu:=hu8 hr
 have hu1:=Yb hr
 refine⟨_,(Xc (Xm (i:=3) Qs.nd rfl (Or.inl rfl) (X1 (Xd (X1 Xe) Xe Jx)))
  (Xc (X6 PassesOwn.never rfl (XR rfl Z.b_range (Xd (pv 1) Xe)) (Xl (i:=4) Qs.nd rfl (Or.inl rfl))
   (Xc (Xm (i:=5) Qs.nd rfl (Or.inl rfl) (X1 Xe))
   (Xc (X6 PassesOwn.never rfl (XG (K:=K) rfl (pv 3)) (Xl (i:=6) Qs.nd rfl (Or.inl rfl))
    (Xc (X6 PassesOwn.never rfl (XR rfl Z.b_range (Xd (pv 2) Xe)) (Xl (i:=7) Qs.nd rfl (Or.inl rfl))
     (Xc (Yl (ZP PySem.F.plainAttrs_list PySem.F.slot_list_append PySem.F.type_list_append XX (pv 5) (Xd (Xq KM (pv 6) (X1 (Xd (pv 7) Xe))) Xe)))
     Xf))
    Xf))
   (Xc (Xm (i:=3) Qs.nd rfl (Or.inl rfl) (pv 5))
   Xf))))
  (Xc (XC (Xy (Xo K rfl) rfl Z.b_len PySem.boot_len (Xd (Yp (sc:=(Xi Ks)) (N0:=["_law_lines","_law_count_here","_law_prime","_law_found","_law_k","_law_longer","_law_colours","_law_colour"]) (tns:=["_law_one"]) (caps:=[(0,"_law_lines"),(2,"_law_prime")]) rfl (XG (K:=K) rfl (pv 3)) (YL (by decide)) (λcl C s H ex E=>⟨Xl (i:=0) (show List.Nodup (["_law_one","_law_lines","_law_prime"]:List Str) by decide+kernel) rfl (Or.inl rfl),(JU (Ve (XN g_kept hr (by decide) (Xd (pv 1) (Xd (pv 0) (Xd (pv 2) Xe)))))),(pv 0)⟩)) Xe)))
  Xf))),?_⟩
 refine Yk (S:=(SC.add (SC.add (SC.add SC.nil K (rV (rV Xa)) v_0 a_0) K Xa v_1 a_1) K Xa v_2 a_2)) (σ:=[some v_0,some v_1,some v_2,none,none,none,none,none]) 1 ?_ (SC.i (SC.i (SC.i SC.t h_0) h_1) h_2) hm q rfl
 unfold Ji
 exact(Xp (K:=K) (r:=(rV (rV Xa))) 3 (Ev.sh (o:=(oL (oL (oF Xa)))) (Ez (Uj (Qt (o:=(oF Xa))) λ_=>Kc))) λa1 v2=>(Yr (K:=K) (J:=({oo:=λx7=>[[]],ss:=λx7=>[some v_0,some v_1,some v_2,some x7.2.2.2.1,x7.1,x7.2.1,x7.2.2.1,x7.2.2.2.2],sc:=λg8 x7=>(SC.add (SC.add (SC.add (SC.add SC.nil K (rV (rV Xa)) v_0 a_0) K Xa v_1 a_1) K Xa v_2 a_2) K (rV (rV Xa)) x7.2.2.2.1 g8)}:Jn ((List (List Int))) (Option V×Option V×Option V×V×Option V))) (λ_=>tg1 4) ((none),(none),(none),v2,(none)) (a1) (XF (Xb (r:=Xa) 1 rfl (λ_ s=>s.l.l.r))) rfl rfl (λ_ s=>(SC.i (SC.i (SC.i (SC.i SC.t s.l.l.l.r) s.l.l.r) s.l.r) s.r)) (λg9 x10 a11 v12=>(XM (K:=K) (o:=(oL (oL (oF Xa)))) 5 0 (Qt (o:=(oL (oF Xa)))) (Nat.le_of_ble_eq_true rfl) λa13 v14 C15=>(Yr (K:=K) (J:=({oo:=λx16=>[x16.2.2.2],ss:=λx16=>[some v_0,some v_1,some v_2,some x10.2.2.2.1,some v12,some x16.2.2.1,x16.1,x16.2.1],sc:=λg17 x16=>(SC.addO (SC.add (SC.add (SC.add (SC.add (SC.add SC.nil K (rV (rV Xa)) v_0 a_0) K Xa v_1 a_1) K Xa v_2 a_2) K (rV (rV Xa)) x10.2.2.2.1 g9) K Xa v12 a11) K (oL (oL (oF Xa))) x16.2.2.1 g17 x16.2.2.2)}:Jn ((List (List Int))) (Option V×Option V×V×List XH))) (λ_=>tg1 6) ((x10.2.2.1),(x10.2.2.2.2),v14,C15) (a13) (Xt (Xj (r:=(rV (rV Xa))) 3 rfl (λ_ s=>s.l.l.r))) rfl rfl (λ_ s=>(SC.i (SC.i (SC.i (SC.i (SC.i (SC.i SC.t s.l.l.l.l.l.r) s.l.l.l.l.r) s.l.l.l.r) s.l.l.r) s.l.r) s.r)) (λg18 x19 a20 v21=>(Yr (K:=K) (J:=({oo:=λx23=>[x23.2.2],ss:=λx23=>[some v_0,some v_1,some v_2,some x10.2.2.2.1,some v12,some x23.2.1,some v21,x23.1],sc:=λg24 x23=>(SC.addO (SC.add (SC.add (SC.add (SC.add (SC.add (SC.add SC.nil K (rV (rV Xa)) v_0 a_0) K Xa v_1 a_1) K Xa v_2 a_2) K (rV (rV Xa)) x10.2.2.2.1 g9) K Xa v12 a11) K (rV Xa) v21 a20) K (oL (oL (oF Xa))) x23.2.1 g24 x23.2.2)}:Jn ((List (List Int))) (Option V×V×List XH))) (λ_=>tg1 7) ((x19.2.1),x19.2.2.1,x19.2.2.2) (g18) (XF (Xb (r:=Xa) 2 rfl (λ_ s=>s.l.l.l.l.r))) rfl rfl (λ_ s=>(SC.i (SC.i (SC.i (SC.i (SC.i (SC.i (SC.i SC.t s.l.l.l.l.l.l.r) s.l.l.l.l.l.r) s.l.l.l.l.r) s.l.l.l.r) s.l.l.r) s.r) s.l.r)) (λg25 x26 a27 v28=>(Zy (K:=K) (o:=(oL (oF Xa))) (f:=λa36=>(Rs.ok (a36))) 5 0 rfl rfl rfl (λ_ s=>s.l.r) (Dm (EvS.ls (Xj (r:=(rV Xa)) 6 rfl (λ_ s=>s.l.l.r))) (Ev.ls (ZR (Xw (Xj (r:=Xa) 7 rfl (λ_ s=>s.r)) Zf)))) λa34 C35=>(Xu (J:=_) ((some v28),x26.2.1,C35) ((g25++[a34])) rfl rfl (λ_ s=>(SC.i (SC.i (SC.i (SC.i (SC.i (SC.i (SC.i SC.t s.l.l.l.l.l.l.l.l.r) s.l.l.l.l.l.l.l.r) s.l.l.l.l.l.l.r) s.l.l.l.l.l.r) s.l.l.l.l.r) s.l.l.l.r) s.r))))) λg37 x38=>(Xu (J:=_) ((some v21),(x38.1),x38.2.1,x38.2.2) (g37) rfl rfl (λ_ s=>(SC.i (SC.i (SC.i (SC.i (SC.i (SC.i SC.t s.l.l.l.l.l.l.r) s.l.l.l.l.l.r) s.l.l.l.l.r) s.l.l.l.r) s.l.l.r) s.r))))) λg40 x41=>(Nl (K:=K) (o:=(oL (oL (oF Xa)))) 0 rfl (λ_ s=>s.r) (Xp (K:=K) (r:=(rV (rV Xa))) 3 (Xj (r:=(rV (rV Xa))) 5 rfl (λ_ s=>s.r)) λa44 v45=>(Xu (J:=_) ((some v12),(some x41.2.2.1),(x41.1),v45,(x41.2.1)) (a44) rfl rfl (λ_ s=>(SC.i (SC.i (SC.i (SC.i SC.t s.l.l.l.l.l.l.l.r) s.l.l.l.l.l.l.r) s.l.l.l.l.l.r) s.r)))))))) λg47 x48=>(XB (EvS.ev (EvB.sh (Ym (Ev.toB (QS (λ_=>tg1 0) (Xt (Xj (r:=(rV (rV Xa))) 3 rfl (λ_ s=>s.r))) (λC50 a51 v52=>(UD (K:=K) (Ev.toB (Yc (Xb (r:=(rV (rV Xa))) 1 rfl (λ_ s=>s.l.l.l.l.r)) (Xb (r:=(rV Xa)) 0 rfl (λ_ s=>s.r)) (Xb (r:=Xa) 2 rfl (λ_ s=>s.l.l.r)))))) (λC50 a51 v52=>(EvS.ev (Xj (r:=(rV Xa)) 0 rfl (λ_ s=>s.r))))))))))))
theorem VI:FnScope ["_law_prime","_law_count_here","_law_total","_law_k"] ["_law_prime","_law_count_here"] (Xi Fo):=⟨rfl,rfl,rfl,by decide+kernel,rfl,by decide+kernel,by decide+kernel⟩
theorem EZ (D:Def K mg "_law_power" Fo ["_law_prime","_law_count_here"])(Z:Blt mg):Fn P w K mg base 1 "_law_power" ["_law_prime","_law_count_here"] (sp2 Xa Xa (oF Xa) Jc K):=by
 refine Yf D VI (λvs H Q E h=>?_) (λf cdv A outer s H vs Q E hr h=>?_)
 ·obtain⟨v_0,v_1,a_0,a_1,b,rfl,_⟩:=h;rfl
 obtain⟨v_0,v_1,a_0,a_1,b,rfl,h_0,h_1,hm,q⟩:=h
 have hu:=hu8 hr
 have hu1:=Yb hr
 refine⟨_,(Xc (Xm (i:=2) VI.nd rfl (Or.inl rfl) Xh)
  (Xc (X6 PassesOwn.never rfl (XR rfl Z.b_range (Xd (pv 1) Xe)) (Xl (i:=3) VI.nd rfl (Or.inl rfl))
   (Xc (Xm (i:=2) VI.nd rfl (Or.inl rfl) (Xq Yz (pv 2) (pv 0)))
   Xf))
  (Xc (XC (pv 2))
  Xf))),?_⟩
 refine Yk (S:=(SC.add (SC.add SC.nil K Xa v_0 a_0) K Xa v_1 a_1)) (σ:=[some v_0,some v_1,none,none]) 0 ?_ (SC.i (SC.i SC.t h_0) h_1) hm q rfl
 unfold Jc
 exact(Xp (K:=K) (r:=Xa) 2 (EvB.sh (Xg 1)) λa1 v2=>(Yr (K:=K) (J:=({oo:=λx4=>[],ss:=λx4=>[some v_0,some v_1,some x4.2,x4.1],sc:=λg5 x4=>(SC.add (SC.add (SC.add SC.nil K Xa v_0 a_0) K Xa v_1 a_1) K Xa x4.2 g5)}:Jn (Int) (Option V×V))) (λ_=>tg1 3) ((none),v2) (a1) (XF (Xb (r:=Xa) 1 rfl (λ_ s=>s.l.r))) rfl rfl (λ_ s=>(SC.i (SC.i (SC.i SC.t s.l.l.r) s.l.r) s.r)) (λg6 x7 a8 v9=>(Xp (K:=K) (r:=Xa) 2 (EvB.sh (XZ (Xb (r:=Xa) 2 rfl (λ_ s=>s.l.r)) (Xb (r:=Xa) 0 rfl (λ_ s=>s.l.l.l.r)))) λa10 v11=>(Xu (J:=_) ((some v9),v11) (a10) rfl rfl (λ_ s=>(SC.i (SC.i (SC.i SC.t s.l.l.l.l.r) s.l.l.l.r) s.r))))) λg14 x15=>(XB (EvS.ev (Xj (r:=Xa) 2 rfl (λ_ s=>s.r))))))
theorem Jm:FnScope ["_law_drawing","_law_prime","_law_factor","_law_found","_law_table","_law_colours"] ["_law_drawing","_law_prime","_law_factor","_law_found"] (Xi JY):=⟨rfl,rfl,rfl,by decide+kernel,rfl,by decide+kernel,by decide+kernel⟩
theorem Fu (D:Def K mg "_law_by_table" JY ["_law_drawing","_law_prime","_law_factor","_law_found"])(g_scaled:Fn P w K mg base 2 "scaled" ["size","factor"] (sp2 Xa Xa (oL (oL (oF Xa))) QN K))(g_colourings:Fn P w K mg base 6 "colourings" ["drawing","table"] (sp2 (rP2 (rV (rV Xa)) (rV (rP2 Xa Xa))) (rV (rV Xa)) (oL (oL (oF Xa))) Yv K))(g_many:Fn P w K mg base 7 "many" ["drawing","table"] (sp2 (rP2 (rV (rV Xa)) (rV (rP2 Xa Xa))) (rV (rV Xa)) (oF Xa) UP K))(g_copy:Fn P w K mg base 1 "_law_copy" ["_law_drawing"] (sp1 (rP2 (rV (rV Xa)) (rV (rP2 Xa Xa))) (oT2 (oL (oL (oF Xa))) (oL (oF (rP2 Xa Xa)))) Q7 K))(g_keeps:Fn P w K mg base 7 "keeps" ["drawing","prime","factor","colours"] (sp4 (rP2 (rV (rV Xa)) (rV (rP2 Xa Xa))) Xa Xa (rV Xa) (oF X0) Vb K))(Z:Blt mg):Fn P w K mg base 8 "_law_by_table" ["_law_drawing","_law_prime","_law_factor","_law_found"] (sp4 (rP2 (rV (rV Xa)) (rV (rP2 Xa Xa))) Xa Xa Xa (oF X0) ZJ K):=by
 refine Yf D Jm (λvs H Q E h=>?_) (λf cdv A outer s H vs Q E hr h=>?_)
 ·obtain⟨v_0,v_1,v_2,v_3,a_0,a_1,a_2,a_3,b,rfl,_⟩:=h;rfl
 obtain⟨v_0,v_1,v_2,v_3,a_0,a_1,a_2,a_3,b,rfl,h_0,h_1,h_2,h_3,hm,q⟩:=h
 have hu:=hu8 hr
 have hu1:=Yb hr
 refine⟨_,(Xc (Xm (i:=4) Jm.nd rfl (Or.inl rfl) (XN g_scaled hr (by decide) (Xd (pv 1) (Xd (pv 2) Xe))))
  (Xc (Zb (XI Dz (XN g_many hr (by decide) (Xd (XN g_copy hr (by decide) (Xd (pv 0) Xe)) (Xd (pv 4) Xe))) (pv 3) (XW _))
   (Xc (XC QE)
   Xf)
   Xf)
  (Xc (X6 PassesOwn.never rfl (XG (K:=K) rfl (XN g_colourings hr (by decide) (Xd (XN g_copy hr (by decide) (Xd (pv 0) Xe)) (Xd (pv 4) Xe)))) (Xl (i:=5) Jm.nd rfl (Or.inl rfl))
   (Xc (Zb (XI En (XN g_keeps hr (by decide) (Xd (XN g_copy hr (by decide) (Xd (pv 0) Xe)) (Xd (pv 1) (Xd (pv 2) (Xd (pv 5) Xe))))) QE (XW _))
    (Xc (XC QE)
    Xf)
    Xf)
   Xf))
  (Xc (XC QE)
  Xf)))),?_⟩
 refine Yk (S:=(SC.add (SC.add (SC.add (SC.add SC.nil K (rP2 (rV (rV Xa)) (rV (rP2 Xa Xa))) v_0 a_0) K Xa v_1 a_1) K Xa v_2 a_2) K Xa v_3 a_3)) (σ:=[some v_0,some v_1,some v_2,some v_3,none,none]) 0 ?_ (SC.i (SC.i (SC.i (SC.i SC.t h_0) h_1) h_2) h_3) hm q rfl
 unfold ZJ
 exact(Xp (K:=K) (r:=(rV (rV Xa))) 4 (Ev.sh (XT (Xb (r:=Xa) 1 rfl (λ_ s=>s.l.l.r)) (Xb (r:=Xa) 2 rfl (λ_ s=>s.l.r)))) λa1 v2=>(Q6 (Xv (K:=K) (UL (Ev.toB (XT (Ev.toB (X3 (Xb (r:=(rP2 (rV (rV Xa)) (rV (rP2 Xa Xa)))) 0 rfl (λ_ s=>s.l.l.l.l.r)))) (Xb (r:=(rV (rV Xa))) 4 rfl (λ_ s=>s.r)))) (Xb (r:=Xa) 3 rfl (λ_ s=>s.l.r)))) (XB (EvS.ev (EvB.sh (ZE false)))) (KG (K:=K) (J:=({oo:=λx19=>[],ss:=λx19=>[some v_0,some v_1,some v_2,some v_3,some v2,x19],sc:=λg20 x19=>(SC.add (SC.add (SC.add (SC.add (SC.add SC.nil K (rP2 (rV (rV Xa)) (rV (rP2 Xa Xa))) v_0 a_0) K Xa v_1 a_1) K Xa v_2 a_2) K Xa v_3 a_3) K (rV (rV Xa)) v2 a1)}:Jn (Unit) (Option V))) (λ_=>tg1 5) ((none)) () (Xt (Ev.sh (XT (Ev.toB (X3 (Xb (r:=(rP2 (rV (rV Xa)) (rV (rP2 Xa Xa)))) 0 rfl (λ_ s=>s.l.l.l.l.r)))) (Xb (r:=(rV (rV Xa))) 4 rfl (λ_ s=>s.r))))) rfl rfl (λ_ s=>(SC.i (SC.i (SC.i (SC.i (SC.i SC.t s.l.l.l.l.r) s.l.l.l.r) s.l.l.r) s.l.r) s.r)) (λg21 x22 a23 v24=>(VV (Xv (K:=K) (EV (b:=true) (Ev.toB (Q0 (Ev.toB (X3 (Xb (r:=(rP2 (rV (rV Xa)) (rV (rP2 Xa Xa)))) 0 rfl (λ_ s=>s.l.l.l.l.l.r)))) (Xb (r:=Xa) 1 rfl (λ_ s=>s.l.l.l.l.r)) (Xb (r:=Xa) 2 rfl (λ_ s=>s.l.l.l.r)) (Xb (r:=(rV Xa)) 5 rfl (λ_ s=>s.r)))))) (XB (EvS.ev (EvB.sh (ZE false)))) (GC (Xu (J:=_) ((some v24)) () rfl rfl (λ_ s=>(SC.i (SC.i (SC.i (SC.i (SC.i SC.t s.l.l.l.l.l.r) s.l.l.l.l.r) s.l.l.l.r) s.l.l.r) s.l.r)))))) λg36 x37=>(XB (EvS.ev (EvB.sh (ZE true)))))))
theorem Ql:FnScope ["_law_drawing","_law_prime","_law_factor","_law_handed","_law_found","_law_frees","_law_count_here","_law_whole","_law_lines"] ["_law_drawing","_law_prime","_law_factor"] (Xi GM):=⟨rfl,rfl,rfl,by decide+kernel,rfl,by decide+kernel,by decide+kernel⟩
theorem HP (D:Def K mg "_law_asked" GM ["_law_drawing","_law_prime","_law_factor"])(g_copy:Fn P w K mg base 1 "_law_copy" ["_law_drawing"] (sp1 (rP2 (rV (rV Xa)) (rV (rP2 Xa Xa))) (oT2 (oL (oL (oF Xa))) (oL (oF (rP2 Xa Xa)))) Q7 K))(g_straight_many:Fn P w K mg base 8 "straight_many" ["drawing","prime","factor"] (sp3 (rP2 (rV (rV Xa)) (rV (rP2 Xa Xa))) Xa Xa (oF Xa) YI K))(g_count:Fn P w K mg base 1 "_law_count" ["_law_drawing"] (sp1 (rP2 (rV (rV Xa)) (rV (rP2 Xa Xa))) (oF Xa) Qk K))(g_power:Fn P w K mg base 1 "_law_power" ["_law_prime","_law_count_here"] (sp2 Xa Xa (oF Xa) Jc K))(g_l_equations:Fn P w K mg base 3 "_law_equations" ["_law_drawing","_law_prime","_law_factor"] (sp3 (rP2 (rV (rV Xa)) (rV (rP2 Xa Xa))) Xa Xa (oL (oL (oF Xa))) Y7 K))(g_by_table:Fn P w K mg base 8 "_law_by_table" ["_law_drawing","_law_prime","_law_factor","_law_found"] (sp4 (rP2 (rV (rV Xa)) (rV (rP2 Xa Xa))) Xa Xa Xa (oF X0) ZJ K))(g_solved:Fn P w K mg base 7 "solved" ["drawing","prime","factor"] (sp3 (rP2 (rV (rV Xa)) (rV (rP2 Xa Xa))) Xa Xa (oT3 (oL (oF Xa)) (oL (oL (oF Xa))) (oL (oT2 (oF Xa) (oL (oF Xa))))) Z0 K))(g_is_whole:Fn P w K mg base 1 "_law_is_whole" ["_law_one"] (sp1 Xa (oF X0) Qa K))(g_tried:Fn P w K mg base 3 "_law_tried" ["_law_lines","_law_count_here","_law_prime"] (sp3 (rV (rV Xa)) Xa Xa (oF Xa) Ji K))(Z:Blt mg):Fn P w K mg base 9 "_law_asked" ["_law_drawing","_law_prime","_law_factor"] (sp3 (rP2 (rV (rV Xa)) (rV (rP2 Xa Xa))) Xa Xa (oF X0) QC K):=by
 refine Yf D Ql (λvs H Q E h=>?_) (λf cdv A outer s H vs Q E hr h=>?_)
 ·obtain⟨v_0,v_1,v_2,a_0,a_1,a_2,b,rfl,_⟩:=h;rfl
 obtain⟨v_0,v_1,v_2,a_0,a_1,a_2,b,rfl,h_0,h_1,h_2,hm,q⟩:=h
 have hu:=hu8 hr
 have hu1:=Yb hr
 refine⟨_,(Xc (Xm (i:=3) Ql.nd rfl (Or.inl rfl) (XN g_copy hr (by decide) (Xd (pv 0) Xe)))
  (Xc (Xm (i:=4) Ql.nd rfl (Or.inl rfl) (XN g_straight_many hr (by decide) (Xd (pv 3) (Xd (pv 1) (Xd (pv 2) Xe)))))
  (Xc (Xm (i:=5) Ql.nd rfl (Or.inl rfl) (XJ (Y4 K rfl) (XN g_solved hr (by decide) (Xd (pv 3) (Xd (pv 1) (Xd (pv 2) Xe)))) Xh (λ_ _=>rfl)))
  (Xc (Zb (XI (NO (Nu (On (On eq_int)) (On (Nu eq_int eq_int))) (Om (by decide) hu)) (pv 3) (pv 0) (XW _))
   (Xc (XC QE)
   Xf)
   Xf)
  (Xc (Zb (PW.pt (MU (UR (Ve (XN g_is_whole hr (by decide) (Xd (pv 4) Xe)))) (Iz (XI Dz (pv 4) (XN g_power hr (by decide) (Xd (pv 1) (Xd (Xy (Xo K rfl) rfl Z.b_len PySem.boot_len (Xd (pv 5) Xe)) Xe))) (XW _)))))
   (Xc (XC QE)
   Xf)
   Xf)
  (Xc (Xm (i:=6) Ql.nd rfl (Or.inl rfl) (XN g_count hr (by decide) (Xd (pv 0) Xe)))
  (Xc (Xm (i:=7) Ql.nd rfl (Or.inl rfl) (XN g_power hr (by decide) (Xd (pv 1) (Xd (pv 6) Xe))))
  (Xc (Xm (i:=8) Ql.nd rfl (Or.inl rfl) (XN g_l_equations hr (by decide) (Xd (pv 0) (Xd (pv 1) (Xd (pv 2) Xe)))))
  (Xc (Zb (PW.pt (Iq (XI Ny (pv 7) Xh (XW _)) (Bl (XI Dz (pv 4) (XN g_tried hr (by decide) (Xd (pv 8) (Xd (pv 6) (Xd (pv 1) Xe)))) (XW _)))))
   (Xc (XC QE)
   Xf)
   Xf)
  (Xc (Zb (XI K8 (pv 7) Xh (XW _))
   (Xc (XC QE)
   Xf)
   Xf)
  (Xc (XC (XN g_by_table hr (by decide) (Xd (pv 0) (Xd (pv 1) (Xd (pv 2) (Xd (pv 4) Xe))))))
  Xf))))))))))),?_⟩
 refine Yk (S:=(SC.add (SC.add (SC.add SC.nil K (rP2 (rV (rV Xa)) (rV (rP2 Xa Xa))) v_0 a_0) K Xa v_1 a_1) K Xa v_2 a_2)) (σ:=[some v_0,some v_1,some v_2,none,none,none,none,none,none]) 0 ?_ (SC.i (SC.i (SC.i SC.t h_0) h_1) h_2) hm q rfl
 unfold QC
 exact(Xp (K:=K) (r:=(rP2 (rV (rV Xa)) (rV (rP2 Xa Xa)))) 3 (Ev.sh (X3 (Xb (r:=(rP2 (rV (rV Xa)) (rV (rP2 Xa Xa)))) 0 rfl (λ_ s=>s.l.l.r)))) λa1 v2=>(Xp (K:=K) (r:=Xa) 4 (EvB.sh (Ev.toB (Yc (Xb (r:=(rP2 (rV (rV Xa)) (rV (rP2 Xa Xa)))) 3 rfl (λ_ s=>s.r)) (Xb (r:=Xa) 1 rfl (λ_ s=>s.l.l.r)) (Xb (r:=Xa) 2 rfl (λ_ s=>s.l.r))))) λa5 v6=>(Xp (K:=K) (r:=(rV Xa)) 5 (CY (Ev.sh (Yc (Xb (r:=(rP2 (rV (rV Xa)) (rV (rP2 Xa Xa)))) 3 rfl (λ_ s=>s.l.r)) (Xb (r:=Xa) 1 rfl (λ_ s=>s.l.l.l.r)) (Xb (r:=Xa) 2 rfl (λ_ s=>s.l.l.r))))) λa11 v12=>(Q6 (Xv (K:=K) (Lw (Xb (r:=(rP2 (rV (rV Xa)) (rV (rP2 Xa Xa)))) 3 rfl (λ_ s=>s.l.l.r)) (Xb (r:=(rP2 (rV (rV Xa)) (rV (rP2 Xa Xa)))) 0 rfl (λ_ s=>s.l.l.l.l.l.r)))) (XB (EvS.ev (EvB.sh (ZE false)))) (Q6 (Il (Va (UD (K:=K) (Ev.toB (X3 (Xb (r:=Xa) 4 rfl (λ_ s=>s.l.r)))))) (Xv (K:=K) (UL (Xb (r:=Xa) 4 rfl (λ_ s=>s.l.r)) (Ev.toB (XT (Xb (r:=Xa) 1 rfl (λ_ s=>s.l.l.l.l.r)) (Ym (Xb (r:=(rV Xa)) 5 rfl (λ_ s=>s.r)))))))) (XB (EvS.ev (EvB.sh (ZE false)))) (Xp (K:=K) (r:=Xa) 6 (EvB.sh (Ev.toB (X3 (Xb (r:=(rP2 (rV (rV Xa)) (rV (rP2 Xa Xa)))) 0 rfl (λ_ s=>s.l.l.l.l.l.r))))) λa31 v32=>(Xp (K:=K) (r:=Xa) 7 (EvB.sh (Ev.toB (XT (Xb (r:=Xa) 1 rfl (λ_ s=>s.l.l.l.l.l.r)) (Xb (r:=Xa) 6 rfl (λ_ s=>s.r))))) λa35 v36=>(Xp (K:=K) (r:=(rV (rV Xa))) 8 (Ev.sh (Yc (Xb (r:=(rP2 (rV (rV Xa)) (rV (rP2 Xa Xa)))) 0 rfl (λ_ s=>s.l.l.l.l.l.l.l.r)) (Xb (r:=Xa) 1 rfl (λ_ s=>s.l.l.l.l.l.l.r)) (Xb (r:=Xa) 2 rfl (λ_ s=>s.l.l.l.l.l.r)))) λa40 v41=>(Q6 (BD (Xv (K:=K) (Im (Xb (r:=Xa) 7 rfl (λ_ s=>s.l.r)) (Xg 800))) (Xv (K:=K) (UL (Xb (r:=Xa) 4 rfl (λ_ s=>s.l.l.l.l.r)) (Ev.toB (Yc (Xb (r:=(rV (rV Xa))) 8 rfl (λ_ s=>s.r)) (Xb (r:=Xa) 6 rfl (λ_ s=>s.l.l.r)) (Xb (r:=Xa) 1 rfl (λ_ s=>s.l.l.l.l.l.l.l.r))))))) (XB (EvS.ev (EvB.sh (ZE false)))) (Q6 (Xv (K:=K) (Vj (Xb (r:=Xa) 7 rfl (λ_ s=>s.l.r)) (Xg 2500))) (XB (EvS.ev (EvB.sh (ZE true)))) (XB (Q0 (Xb (r:=(rP2 (rV (rV Xa)) (rV (rP2 Xa Xa)))) 0 rfl (λ_ s=>s.l.l.l.l.l.l.l.l.r)) (Xb (r:=Xa) 1 rfl (λ_ s=>s.l.l.l.l.l.l.l.r)) (Xb (r:=Xa) 2 rfl (λ_ s=>s.l.l.l.l.l.l.r)) (Xb (r:=Xa) 4 rfl (λ_ s=>s.l.l.l.l.r))))))))))))))
theorem Ur:FnScope ["_law_script","_law_drawing","_law_some","_law_prime","_law_factor","_law_other"] ["_law_script"] (Xi UE):=⟨rfl,rfl,rfl,by decide+kernel,rfl,by decide+kernel,by decide+kernel⟩
theorem NU {f:Addr}{fd:FuncData}(F:Fun K "law" "law" UE f fd)(g_drawn:Fn P w K mg base 3 "_law_drawn" ["_law_script","_law_place","_law_most"] (sp3 (rL Xa) Xa Xa (oT2 (oL (oL (oF Xa))) (oL (oF (rP2 Xa Xa)))) Js K))(g_row:Fn P w K mg base 2 "_law_row" ["_law_script","_law_place","_law_sizes"] (sp3 (rL Xa) Xa (rV Xa) (oL (oF Xa)) KS K))(g_asked:Fn P w K mg base 9 "_law_asked" ["_law_drawing","_law_prime","_law_factor"] (sp3 (rP2 (rV (rV Xa)) (rV (rP2 Xa Xa))) Xa Xa (oF X0) QC K))(Z:Blt mg):FnOk P w K mg base CX0 10 f fd ["_law_script"] (sp1 (rL Xa) (oF X0) Fv K):=by
  refine F.ok Ur (λvs H Q E h=>?_) (λcdv A outer s H vs Q E hr h=>?_)
  . obtain⟨v_0,a_0,b,rfl,_⟩:=h;rfl
  obtain⟨v_0,a_0,b,rfl,h_0,hm,q⟩:=h
  have hu:=hu8 hr
  have hu1:=Yb hr
  apply Exists.intro
  apply And.intro
  case left=>
   refine' Xc ?zq1 ?zq2
   case zq1=>
    exact(Xm (i:=1) Ur.nd rfl (Or.inl rfl) (XN g_drawn hr (by decide) (Xd (pv 0) (Xd Xh (Xd Xh Xe)))))
   case zq2=>
    refine' Xc ?zq3 ?zq4
    case zq3=>
     refine' Xm (i:=2) ?zq5 ?zq6 ?zq7 ?zq8
     case zq5=>
      exact Ur.nd
     case zq6=>
      exact rfl
     case zq7=>
      exact(Or.inl rfl)
     case zq8=>
      exact(XN g_row hr (by decide) (Xd (pv 0) (Xd Xh (Xd (X1 (Xd Xh (Xd Xh (Xd Xh Xe)))) Xe Jx))))
    case zq4=>
     refine' Xc ?zq9 ?zq10
     case zq9=>
      refine' Xm (i:=3) ?zq11 ?zq12 ?zq13 ?zq14
      case zq11=>
       exact Ur.nd
      case zq12=>
       exact rfl
      case zq13=>
       exact(Or.inl rfl)
      case zq14=>
       refine' XJ (Xn K rfl) ?zq15 ?zq16 (λ_ _=>rfl)
       case zq15=>
        exact(X1 (Xd Xh (Xd Xh (Xd Xh (Xd Xh (Xd Xh (Xd Xh (Xd Xh (Xd Xh (Xd Xh Xe))))))))))
       case zq16=>
        exact(XJ (Xn K rfl) (pv 2) Xh (λ_ _=>rfl))
     case zq10=>
      refine' Xc ?zq17 ?zq18
      case zq17=>
       refine' Xm (i:=4) ?zq19 ?zq20 ?zq21 ?zq22
       case zq19=>
        exact Ur.nd
       case zq20=>
        exact rfl
       case zq21=>
        exact(Or.inl rfl)
       case zq22=>
        exact(Xq X9 Xh (Xq Ya (XJ (Xn K rfl) (pv 2) Xh (λ_ _=>rfl)) (Xy (JK rfl) rfl Z.b_max PyProof.Rows.boot_max (Xd Xh (Xd (Xq JL (pv 3) Xh) Xe)))))
      case zq18=>
       refine' Xc ?zq23 ?zq24
       case zq23=>
        refine' Xm (i:=4) ?zq25 ?zq26 ?zq27 ?zq28
        case zq25=>
         exact Ur.nd
        case zq26=>
         exact rfl
        case zq27=>
         exact(Or.inl rfl)
        case zq28=>
         exact(Xq X9 (pv 4) (Xq Yz (pv 3) (XJ (Xn K rfl) (X1 (Xd Xh (Xd Xh (Xd (Up QG Xh) (Xd Xh (Xd (Xq Dd Xh Xh) Xe)))))) (XJ (Xn K rfl) (pv 2) Xh (λ_ _=>rfl)) (λ_ _=>rfl))))
       case zq24=>
        refine' Xc ?zq29 ?zq30
        case zq29=>
         refine' Xm (i:=5) ?zq31 ?zq32 ?zq33 ?zq34
         case zq31=>
          exact Ur.nd
         case zq32=>
          exact rfl
         case zq33=>
          exact(Or.inl rfl)
         case zq34=>
          refine' ZF ?zq35
          case zq35=>
           refine' Xd ?zq36 ?zq37
           case zq36=>
            exact(XJ (Y4 K rfl) (pv 1) Xh (λ_ _=>rfl))
           case zq37=>
            refine' Xd ?zq38 ?zq39
            case zq38=>
             exact(Yp (sc:=(Xi UE)) (N0:=["_law_script","_law_drawing","_law_some","_law_prime","_law_factor","_law_other"]) (tns:=["_law_one","_law_sign"]) (caps:=[]) rfl (XG (K:=K) rfl (XJ (Y4 K rfl) (pv 1) Xh (λ_ _=>rfl))) (JQ (by decide) (by decide)) (λcl C s H ex E=>⟨Jd K rfl rfl (Xs (Xl (i:=0) (show List.Nodup (["_law_one","_law_sign"]:List Str) by decide+kernel) rfl (Or.inl rfl)) (Xs (Xl (i:=1) (show List.Nodup (["_law_one","_law_sign"]:List Str) by decide+kernel) rfl (Or.inl rfl)) Y6)),YD,(ZF (Xd (pv 0) (Xd (Up QG (pv 1)) Xe)))⟩))
            case zq39=>
             exact Xe
        case zq30=>
         refine' Xc ?zq40 ?zq41
         case zq40=>
          exact(Zb (UR (Ve (XN g_asked hr (by decide) (Xd (pv 1) (Xd (pv 3) (Xd (pv 4) Xe))))))
      (Xc (XC QE)
      Xf)
      Xf)
         case zq41=>
          refine' Xc ?zq42 ?zq43
          case zq42=>
           exact(Zb (UR (Ve (XN g_asked hr (by decide) (Xd (pv 5) (Xd (pv 3) (Xd (pv 4) Xe))))))
      (Xc (XC QE)
      Xf)
      Xf)
          case zq43=>
           exact(Xc (XC (XN g_asked hr (by decide) (Xd (pv 1) (Xd (pv 3) (Xd (pv 4) Xe)))))
    Xf)
  refine Yk (S:=(SC.add SC.nil K (rL Xa) v_0 a_0)) (σ:=[some v_0,none,none,none,none,none]) 0 ?_ (SC.i SC.t h_0) hm q rfl
  unfold Fv
  exact(Xp (K:=K) (r:=(rP2 (rV (rV Xa)) (rV (rP2 Xa Xa)))) 1 (Ev.sh (Yc (Xb (r:=(rL Xa)) 0 rfl (λ_ s=>s.r)) (Xg 0) (Xg 6))) λa1 v2=>(Xp (K:=K) (r:=(rV Xa)) 2 (Ev.sh (Yc (Xb (r:=(rL Xa)) 0 rfl (λ_ s=>s.l.r)) (Xg 1) (Ev.toB (ZR (Xw (EvB.sh (Xg 9)) (Xw (EvB.sh (Xg 22)) (Xw (EvB.sh (Xg 5)) Zf))))))) λa7 v8=>(Xp (K:=K) (r:=Xa) 3 (EvB.sh (XE (Ev.toB (ZR (Xw (EvB.sh (Xg 2)) (Xw (EvB.sh (Xg 3)) (Xw (EvB.sh (Xg 5)) (Xw (EvB.sh (Xg 3)) (Xw (EvB.sh (Xg 5)) (Xw (EvB.sh (Xg 7)) (Xw (EvB.sh (Xg 11)) (Xw (EvB.sh (Xg 13)) (Xw (EvB.sh (Xg 23)) Zf))))))))))) (XE (Xb (r:=(rV Xa)) 2 rfl (λ_ s=>s.r)) (Xg 0)))) λa20 v21=>(Xp (K:=K) (r:=Xa) 4 (EvB.sh (XQ (Xg 1) (XO (XE (Xb (r:=(rV Xa)) 2 rfl (λ_ s=>s.l.r)) (Xg 1)) (Kv (Xg 1) (Qn (Xb (r:=Xa) 3 rfl (λ_ s=>s.r)) (Xg 1)))))) λa45 v46=>(Xp (K:=K) (r:=Xa) 4 (EvB.sh (XQ (Xb (r:=Xa) 4 rfl (λ_ s=>s.r)) (XZ (Xb (r:=Xa) 3 rfl (λ_ s=>s.l.r)) (XE (Ev.toB (ZR (Xw (EvB.sh (Xg 0)) (Xw (EvB.sh (Xg 0)) (Xw (EvB.sh (ZS (Xg 3))) (Xw (EvB.sh (Xg 1)) (Xw (EvB.sh (Kw (Xg 10) (Xg 50))) Zf))))))) (XE (Xb (r:=(rV Xa)) 2 rfl (λ_ s=>s.l.l.r)) (Xg 2)))))) λa57 v58=>(Xp (K:=K) (r:=(rP2 (rV (rV Xa)) (rV (rP2 Xa Xa)))) 5 (QU (Vc (Xj (r:=(rP2 (rV (rV Xa)) (rV (rP2 Xa Xa)))) 1 rfl (λ_ s=>s.l.l.l.l.r))) (Ev.sh (YC (λ_=>tg2 0 1) (Xt (Bc (Xj (r:=(rP2 (rV (rV Xa)) (rV (rP2 Xa Xa)))) 1 rfl (λ_ s=>s.l.l.l.l.r)))) (λC85 a86 v87=>(EvS.ev (QU (Xj (r:=Xa) 0 rfl (λ_ s=>s.l.r)) (EvB.sh (ZS (Xb (r:=Xa) 1 rfl (λ_ s=>s.r)))))))))) λa81 v82=>(Q6 (Va (UD (K:=K) (Ev.toB (Yc (Xb (r:=(rP2 (rV (rV Xa)) (rV (rP2 Xa Xa)))) 1 rfl (λ_ s=>s.l.l.l.l.l.r)) (Xb (r:=Xa) 3 rfl (λ_ s=>s.l.l.l.r)) (Xb (r:=Xa) 4 rfl (λ_ s=>s.l.r)))))) (XB (EvS.ev (EvB.sh (ZE false)))) (Q6 (Va (UD (K:=K) (Ev.toB (Yc (Xb (r:=(rP2 (rV (rV Xa)) (rV (rP2 Xa Xa)))) 5 rfl (λ_ s=>s.r)) (Xb (r:=Xa) 3 rfl (λ_ s=>s.l.l.l.r)) (Xb (r:=Xa) 4 rfl (λ_ s=>s.l.r)))))) (XB (EvS.ev (EvB.sh (ZE false)))) (XB (Yc (Xb (r:=(rP2 (rV (rV Xa)) (rV (rP2 Xa Xa)))) 1 rfl (λ_ s=>s.l.l.l.l.l.r)) (Xb (r:=Xa) 3 rfl (λ_ s=>s.l.l.l.r)) (Xb (r:=Xa) 4 rfl (λ_ s=>s.l.r))))))))))))
end
theorem Cn {K:PySem.W.Frag}{mg:Str->Option Value}{h:Heap}(X:K.In h)(G:h.Ns mainGlobals mg){x p0:Str}{st:Stmt}{f:Addr}{oc:Value}{od an:Option Addr}{osl:Array (Option Value)}{kV doc pm cdv ct:Value}(hb:∀(kV doc pm:Value) (an:Option Addr) (cdv ct u0:Value),bindArgs (PySem.W.fnOf x x (Zo st) (Za st) (Xi st) .none kV doc pm an cdv ct) ⟨[u0],[]⟩=pure ([p0].zip [u0]))(a:PySem.W.nsIn K mainGlobals x=some (some (.ref f)))(l:K.lookup f=some ⟨oc,od, .func (PySem.W.fnOf x x (Zo st) (Za st) (Xi st) .none kV doc pm an cdv ct),osl⟩)(c:PySem.W.codeIn K cdv x=true)(k:PySem.W.keepIn K (.ref f)=true):Def K mg x st [p0]:=⟨f,_,JA l c k,(JA l c k).binds λ_ _ _ _ _ _ us hl=>(by obtain⟨_,rfl⟩:=Nn hl;exact hb ..),PySem.W.mg_of X G a⟩
theorem KI {K:PySem.W.Frag}{mg:Str->Option Value}{h:Heap}(X:K.In h)(G:h.Ns mainGlobals mg){x p0 p1:Str}{st:Stmt}{f:Addr}{oc:Value}{od an:Option Addr}{osl:Array (Option Value)}{kV doc pm cdv ct:Value}(hb:∀(kV doc pm:Value) (an:Option Addr) (cdv ct u0 u1:Value),bindArgs (PySem.W.fnOf x x (Zo st) (Za st) (Xi st) .none kV doc pm an cdv ct) ⟨[u0,u1],[]⟩=pure ([p0,p1].zip [u0,u1]))(a:PySem.W.nsIn K mainGlobals x=some (some (.ref f)))(l:K.lookup f=some ⟨oc,od, .func (PySem.W.fnOf x x (Zo st) (Za st) (Xi st) .none kV doc pm an cdv ct),osl⟩)(c:PySem.W.codeIn K cdv x=true)(k:PySem.W.keepIn K (.ref f)=true):Def K mg x st [p0,p1]:=⟨f,_,JA l c k,(JA l c k).binds λ_ _ _ _ _ _ us hl=>(by obtain⟨_,_,rfl⟩:=NI hl;exact hb ..),PySem.W.mg_of X G a⟩
theorem Dc {K:PySem.W.Frag}{mg:Str->Option Value}{h:Heap}(X:K.In h)(G:h.Ns mainGlobals mg){x p0 p1 p2:Str}{st:Stmt}{f:Addr}{oc:Value}{od an:Option Addr}{osl:Array (Option Value)}{kV doc pm cdv ct:Value}(hb:∀(kV doc pm:Value) (an:Option Addr) (cdv ct u0 u1 u2:Value),bindArgs (PySem.W.fnOf x x (Zo st) (Za st) (Xi st) .none kV doc pm an cdv ct) ⟨[u0,u1,u2],[]⟩=pure ([p0,p1,p2].zip [u0,u1,u2]))(a:PySem.W.nsIn K mainGlobals x=some (some (.ref f)))(l:K.lookup f=some ⟨oc,od, .func (PySem.W.fnOf x x (Zo st) (Za st) (Xi st) .none kV doc pm an cdv ct),osl⟩)(c:PySem.W.codeIn K cdv x=true)(k:PySem.W.keepIn K (.ref f)=true):Def K mg x st [p0,p1,p2]:=⟨f,_,JA l c k,(JA l c k).binds λ_ _ _ _ _ _ us hl=>(by obtain⟨_,_,_,rfl⟩:=MI hl;exact hb ..),PySem.W.mg_of X G a⟩
theorem M1 {K:PySem.W.Frag}{mg:Str->Option Value}{h:Heap}(X:K.In h)(G:h.Ns mainGlobals mg){x p0 p1 p2 p3:Str}{st:Stmt}{f:Addr}{oc:Value}{od an:Option Addr}{osl:Array (Option Value)}{kV doc pm cdv ct:Value}(hb:∀(kV doc pm:Value) (an:Option Addr) (cdv ct u0 u1 u2 u3:Value),bindArgs (PySem.W.fnOf x x (Zo st) (Za st) (Xi st) .none kV doc pm an cdv ct) ⟨[u0,u1,u2,u3],[]⟩=pure ([p0,p1,p2,p3].zip [u0,u1,u2,u3]))(a:PySem.W.nsIn K mainGlobals x=some (some (.ref f)))(l:K.lookup f=some ⟨oc,od, .func (PySem.W.fnOf x x (Zo st) (Za st) (Xi st) .none kV doc pm an cdv ct),osl⟩)(c:PySem.W.codeIn K cdv x=true)(k:PySem.W.keepIn K (.ref f)=true):Def K mg x st [p0,p1,p2,p3]:=⟨f,_,JA l c k,(JA l c k).binds λ_ _ _ _ _ _ us hl=>(by obtain⟨_,_,_,_,rfl⟩:=N8 hl;exact hb ..),PySem.W.mg_of X G a⟩
theorem Nm {l:PySem.W.OpenLaw}{w:World}{K:PySem.W.Frag}{h:Heap}{mg:Str->Option Value}{fa f:Addr}{tk0:Tok}{tk1:Tok}{tk2:Tok}(X:K.In h)(G:h.Ns mainGlobals mg)(hfa:mg "law" =some (.ref fa)){od an:Option Addr}{sl:Array (Option Value)}{oc kV dc pm cd ct:Value}
  (D1:Def K mg "spot" CQ ["drawing","passage"])
  (D2:Def K mg "arcs" Es ["drawing"])
  (D3:Def K mg "arc_count" Qp ["drawing"])
  (D4:Def K mg "arcs_of_walk" Zu ["walk"])
  (D5:Def K mg "arcs_of_ways" Z6 ["walk","first"])
  (D6:Def K mg "meets" GQ ["drawing"])
  (D7:Def K mg "refuse_above" Z8 ["most","size"])
  (D8:Def K mg "ties" Bi ["drawing"])
  (D9:Def K mg "all_held" QR ["table","colours","asked"])
  (D10:Def K mg "colourings" ZX ["drawing","table"])
  (D11:Def K mg "refuse_too_much" Zr ["size","count"])
  (D12:Def K mg "longer_by_arc" ZO ["lists","table","asked"])
  (D13:Def K mg "many" Ec ["drawing","table"])
  (D14:Def K mg "refuse_wrong" Z3 ["prime","factor"])
  (D15:Def K mg "is_prime" Vd ["number"])
  (D16:Def K mg "equations" Qq ["drawing","prime","factor"])
  (D17:Def K mg "keeps" Kr ["drawing","prime","factor","colours"])
  (D18:Def K mg "summed" VD ["numbers","colours"])
  (D19:Def K mg "solved" QZ ["drawing","prime","factor"])
  (D20:Def K mg "with_factors" Zw ["rows"])
  (D21:Def K mg "unit" CT ["count","at"])
  (D22:Def K mg "led_rows" ZL ["rows","count","prime"])
  (D23:Def K mg "times" Km ["row","number","prime"])
  (D24:Def K mg "cleared" Ju ["row","lead","arc","prime"])
  (D25:Def K mg "inverse_rest" Z7 ["number","prime"])
  (D26:Def K mg "colouring_of" Z9 ["free","tied","count","prime"])
  (D27:Def K mg "straight_many" ZV ["drawing","prime","factor"])
  (D28:Def K mg "scaled" JG ["size","factor"])
  (D29:Def K mg "common_divisor" ZC ["factor","size"])
  (D30:Def K mg "_law_cell" Ei ["_law_script","_law_place"])
  (D31:Def K mg "_law_mix" Mm ["_law_cell_here","_law_k"])
  (D32:Def K mg "_law_row" Lo ["_law_script","_law_place","_law_sizes"])
  (D33:Def K mg "_law_mixed" GV ["_law_names","_law_some"])
  (D34:Def K mg "_law_any" HM ["_law_names","_law_some","_law_rings"])
  (D35:Def K mg "_law_plaited" Uv ["_law_names","_law_signs","_law_some","_law_strands"])
  (D36:Def K mg "_law_drawn" Kh ["_law_script","_law_place","_law_most"])
  (D37:Def K mg "_law_copy" FR ["_law_drawing"])
  (D38:Def K mg "_law_is_whole" JW ["_law_one"])
  (D39:Def K mg "_law_arcs" Kl ["_law_walks"])
  (D40:Def K mg "_law_spot" U8 ["_law_walks","_law_passage"])
  (D41:Def K mg "_law_meets" Ui ["_law_drawing"])
  (D42:Def K mg "_law_count" KD ["_law_drawing"])
  (D43:Def K mg "_law_equations" ZH ["_law_drawing","_law_prime","_law_factor"])
  (D44:Def K mg "_law_sum" Hk ["_law_line","_law_colours"])
  (D45:Def K mg "_law_kept" Eg ["_law_lines","_law_colours","_law_prime"])
  (D46:Def K mg "_law_tried" Ks ["_law_lines","_law_count_here","_law_prime"])
  (D47:Def K mg "_law_power" Fo ["_law_prime","_law_count_here"])
  (D48:Def K mg "_law_by_table" JY ["_law_drawing","_law_prime","_law_factor","_law_found"])
  (D49:Def K mg "_law_asked" GM ["_law_drawing","_law_prime","_law_factor"])
  (a:PySem.W.nsIn K mainGlobals "law" =some (some (.ref f)))(l0:K.lookup f=some ⟨oc,od, .func (PySem.W.fnOf "law" "law" (Zo UE) (Za UE) (Xi UE) .none kV dc pm an cd ct),sl⟩)(c:PySem.W.codeIn K cd "law" =true)(k:PySem.W.keepIn K (.ref f)=true)
  (z1:PySem.W.nsIn K mainGlobals "all" =some none)
  (z2:PySem.W.nsIn K mainGlobals "bool" =some none)
  (z3:PySem.W.nsIn K mainGlobals "dict" =some none)
  (z4:PySem.W.nsIn K mainGlobals "enumerate" =some none)
  (z5:PySem.W.nsIn K mainGlobals "int" =some none)
  (z6:PySem.W.nsIn K mainGlobals "isinstance" =some none)
  (z7:PySem.W.nsIn K mainGlobals "len" =some none)
  (z8:PySem.W.nsIn K mainGlobals "list" =some none)
  (z9:PySem.W.nsIn K mainGlobals "max" =some none)
  (z10:PySem.W.nsIn K mainGlobals "min" =some none)
  (z11:PySem.W.nsIn K mainGlobals "range" =some none)
  (z12:PySem.W.nsIn K mainGlobals "sum" =some none)
  (z13:PySem.W.nsIn K mainGlobals "zip" =some none)
  (w0:PySem.W.nsIn K mainGlobals "MOST_COLOURS" =some (some (.int 24 tk0)))
  (w1:PySem.W.nsIn K mainGlobals "MOST_LISTS" =some (some (.int 65536 tk1)))
  (w2:PySem.W.nsIn K mainGlobals "MOST_PRIME" =some (some (.int 100000 tk2)))
  :∃fd:FuncData,(∀(s:Shared) (v:Value),BindsTo s fd ⟨[v],[]⟩ [("_law_script",v)])/\∀base:Heap,K.In base->base.Ns mainGlobals mg->FnOk l.prog w K mg base CX0 10 fa fd ["_law_script"] (sp1 (rL Xa) (oF X0) Fv K):=by
 have e:=hfa.symm.trans (PySem.W.mg_of X G a)
 cases e
 have N:∀{x:Str},PySem.W.nsIn K mainGlobals x=some none->mg x=none:=λz=>PySem.W.mg_none_of X G z
 have Z:Blt mg:=⟨N z1,N z2,N z3,N z4,N z5,N z6,N z7,N z8,N z9,N z10,N z11,N z12,N z13,⟨_,PySem.W.mg_of X G w0,_,rfl⟩,⟨_,PySem.W.mg_of X G w1,_,rfl⟩,⟨_,PySem.W.mg_of X G w2,_,rfl⟩⟩
 refine⟨PySem.W.fnOf "law" "law" (Zo UE) (Za UE) (Xi UE) .none kV dc pm an cd ct,λs v=>.of_eq rfl,λbase _ _=>?_⟩
 have g_cell:=IS (P:=l.prog) (w:=w) (base:=base) D30 Z
 have g_mix:=NQ (P:=l.prog) (w:=w) (base:=base) D31 Z
 have g_row:=MD (P:=l.prog) (w:=w) (base:=base) D32 g_cell g_mix Z
 have g_plaited:=DK (P:=l.prog) (w:=w) (base:=base) D35 Z
 have g_any:=Nw (P:=l.prog) (w:=w) (base:=base) D34 Z
 have g_mixed:=Hi (P:=l.prog) (w:=w) (base:=base) D33 Z
 have g_drawn:=Hb (P:=l.prog) (w:=w) (base:=base) D36 g_row g_plaited g_any g_mixed Z
 have g_copy:=IP (P:=l.prog) (w:=w) (base:=base) D37 Z
 have g_arcs_of_walk:=VZ (P:=l.prog) (w:=w) (base:=base) D4 Z
 have g_arc_count:=Gj (P:=l.prog) (w:=w) (base:=base) D3 g_arcs_of_walk Z
 have g_times:=H9 (P:=l.prog) (w:=w) (base:=base) D23 Z
 have g_inverse_rest:=Ug (P:=l.prog) (w:=w) (base:=base) D25 Z
 have g_cleared:=DO (P:=l.prog) (w:=w) (base:=base) D24 Z
 have g_led_rows:=G3 (P:=l.prog) (w:=w) (base:=base) D22 g_times g_inverse_rest g_cleared Z
 have g_unit:=Mk (P:=l.prog) (w:=w) (base:=base) D21 Z
 have g_with_factors:=Ub (P:=l.prog) (w:=w) (base:=base) D20 g_unit Z
 have g_colouring_of:=V7 (P:=l.prog) (w:=w) (base:=base) D26 g_unit Z
 have g_is_prime:=GT (P:=l.prog) (w:=w) (base:=base) D15 Z
 have g_refuse_wrong:=Uz (P:=l.prog) (w:=w) (base:=base) D14 g_is_prime Z
 have g_arcs_of_ways:=VO (P:=l.prog) (w:=w) (base:=base) D5 g_arcs_of_walk Z
 have g_arcs:=Lu (P:=l.prog) (w:=w) (base:=base) D2 g_arcs_of_walk g_arcs_of_ways Z
 have g_spot:=IK (P:=l.prog) (w:=w) (base:=base) D1 Z
 have g_meets:=Hq (P:=l.prog) (w:=w) (base:=base) D6 g_arcs g_spot Z
 have g_ties:=IN (P:=l.prog) (w:=w) (base:=base) D8 g_meets Z
 have g_equations:=Ge (P:=l.prog) (w:=w) (base:=base) D16 g_refuse_wrong g_arc_count g_ties Z
 have g_solved:=Bb (P:=l.prog) (w:=w) (base:=base) D19 g_arc_count g_led_rows g_with_factors g_colouring_of g_equations Z
 have g_straight_many:=Vt (P:=l.prog) (w:=w) (base:=base) D27 g_solved Z
 have g_count:=Hu (P:=l.prog) (w:=w) (base:=base) D42 Z
 have g_power:=EZ (P:=l.prog) (w:=w) (base:=base) D47 Z
 have g_l_arcs:=B8 (P:=l.prog) (w:=w) (base:=base) D39 Z
 have g_l_spot:=BA (P:=l.prog) (w:=w) (base:=base) D40 Z
 have g_l_meets:=Du (P:=l.prog) (w:=w) (base:=base) D41 g_l_arcs g_l_spot Z
 have g_l_equations:=UG (P:=l.prog) (w:=w) (base:=base) D43 g_l_meets g_count Z
 have g_refuse_above:=VR (P:=l.prog) (w:=w) (base:=base) D7 Z
 have g_common_divisor:=JZ (P:=l.prog) (w:=w) (base:=base) D29 Z
 have g_scaled:=CU (P:=l.prog) (w:=w) (base:=base) D28 g_refuse_above g_common_divisor Z
 have g_refuse_too_much:=Jw (P:=l.prog) (w:=w) (base:=base) D11 Z
 have g_all_held:=GS (P:=l.prog) (w:=w) (base:=base) D9 Z
 have g_longer_by_arc:=Vs (P:=l.prog) (w:=w) (base:=base) D12 g_all_held Z
 have g_colourings:=Kg (P:=l.prog) (w:=w) (base:=base) D10 g_arc_count g_refuse_too_much g_ties g_longer_by_arc Z
 have g_many:=LC (P:=l.prog) (w:=w) (base:=base) D13 g_colourings Z
 have g_summed:=Cu (P:=l.prog) (w:=w) (base:=base) D18 Z
 have g_keeps:=HU (P:=l.prog) (w:=w) (base:=base) D17 g_equations g_summed Z
 have g_by_table:=Fu (P:=l.prog) (w:=w) (base:=base) D48 g_scaled g_colourings g_many g_copy g_keeps Z
 have g_is_whole:=GR (P:=l.prog) (w:=w) (base:=base) D38 Z
 have g_sum:=MJ (P:=l.prog) (w:=w) (base:=base) D44 Z
 have g_kept:=Lh (P:=l.prog) (w:=w) (base:=base) D45 g_sum Z
 have g_tried:=EW (P:=l.prog) (w:=w) (base:=base) D46 g_kept Z
 have g_asked:=HP (P:=l.prog) (w:=w) (base:=base) D49 g_copy g_straight_many g_count g_power g_l_equations g_by_table g_solved g_is_whole g_tried Z
 exact NU (P:=l.prog) (w:=w) (base:=base) (JA (st:=UE) l0 c k) g_drawn g_row g_asked Z
theorem OU {l:PySem.W.OpenLaw}{q:Program}{loose:List Str}{XP:(Str->Option Value)->Heap->Prop}{YP:World->Heap->Prop}{d:DefRec}{K:Params->PySem.W.Frag}(hn:l.most=some 63)(hdf:d.params.defaults=[])
  (hY:∀(w:World) (h:Heap),YP w h->(K w.params).In h)
  (F:∀(w:World) (mg:Str->Option Value) (fa:Addr) (h:Heap),(K w.params).In h->h.Ns mainGlobals mg->mg d.name=some (.ref fa)->
   ∃fd:FuncData,(∀(s:Shared) (u:Value),BindsTo s fd ⟨[u],[]⟩ [("_law_script",u)])/\∀base:Heap,(K w.params).In base->base.Ns mainGlobals mg->FnOk l.prog w (K w.params) mg base CX0 10 fa fd ["_law_script"] (sp1 (rL Xa) (oF X0) Fv (K w.params))):
  PySem.W.WalkO q loose XP YP l.row.toRowW d [] (λf vs=>PySem.call f vs):=
 L2.IM (n:=63) (k:=10) (x:="_law_script") (CX:=λ_=>CX0) (sp:=λw=>sp1 (rL Xa) (oF X0) Fv (K w.params)) hn (by decide) hdf ⟨rfl,by decide,by decide⟩ hY F (λ_ _ a ns hl _ hS=>⟨.ref a,ns,true,rfl,⟨a,_,rfl,hS,Fw ns⟩,HQ ns hl,λv C H' w m ho=>ho.2⟩) λ_ _ _ _ _ z=>z
end My
open PySem PySem.W PyProof.Rows
set_option maxRecDepth 100000 in
set_option maxHeartbeats 0 in
theorem PySem.Challenge.cw_plait_k84_whole_number_told_holds : PySem.Challenge.rw_plait_k84_whole_number_told.Holds := by
  w_on; o_law; k_head; (case hw => w_witness2)
  k_fill
  refine My.OU (l := PySem.Challenge.rw_plait_k84_whole_number_told) rfl rfl (fun w h Y => PySem.W.kIn_of Y) ?F
  case F =>
    intro w mg fa h KX G hmg
    refine' My.Nm KX G hmg (My.KI KX G (by intros; rfl) ?a1 ?l1 ?c1 ?k1) (My.Cn KX G (by intros; rfl) ?a2 ?l2 ?c2 ?k2) (My.Cn KX G (by intros; rfl) ?a3 ?l3 ?c3 ?k3) (My.Cn KX G (by intros; rfl) ?a4 ?l4 ?c4 ?k4) (My.KI KX G (by intros; rfl) ?a5 ?l5 ?c5 ?k5) (My.Cn KX G (by intros; rfl) ?a6 ?l6 ?c6 ?k6) (My.KI KX G (by intros; rfl) ?a7 ?l7 ?c7 ?k7) (My.Cn KX G (by intros; rfl) ?a8 ?l8 ?c8 ?k8) (My.Dc KX G (by intros; rfl) ?a9 ?l9 ?c9 ?k9) (My.KI KX G (by intros; rfl) ?a10 ?l10 ?c10 ?k10) (My.KI KX G (by intros; rfl) ?a11 ?l11 ?c11 ?k11) (My.Dc KX G (by intros; rfl) ?a12 ?l12 ?c12 ?k12) (My.KI KX G (by intros; rfl) ?a13 ?l13 ?c13 ?k13) (My.KI KX G (by intros; rfl) ?a14 ?l14 ?c14 ?k14) (My.Cn KX G (by intros; rfl) ?a15 ?l15 ?c15 ?k15) (My.Dc KX G (by intros; rfl) ?a16 ?l16 ?c16 ?k16) (My.M1 KX G (by intros; rfl) ?a17 ?l17 ?c17 ?k17) (My.KI KX G (by intros; rfl) ?a18 ?l18 ?c18 ?k18) (My.Dc KX G (by intros; rfl) ?a19 ?l19 ?c19 ?k19) (My.Cn KX G (by intros; rfl) ?a20 ?l20 ?c20 ?k20) (My.KI KX G (by intros; rfl) ?a21 ?l21 ?c21 ?k21) (My.Dc KX G (by intros; rfl) ?a22 ?l22 ?c22 ?k22) (My.Dc KX G (by intros; rfl) ?a23 ?l23 ?c23 ?k23) (My.M1 KX G (by intros; rfl) ?a24 ?l24 ?c24 ?k24) (My.KI KX G (by intros; rfl) ?a25 ?l25 ?c25 ?k25) (My.M1 KX G (by intros; rfl) ?a26 ?l26 ?c26 ?k26) (My.Dc KX G (by intros; rfl) ?a27 ?l27 ?c27 ?k27) (My.KI KX G (by intros; rfl) ?a28 ?l28 ?c28 ?k28) (My.KI KX G (by intros; rfl) ?a29 ?l29 ?c29 ?k29) (My.KI KX G (by intros; rfl) ?a30 ?l30 ?c30 ?k30) (My.KI KX G (by intros; rfl) ?a31 ?l31 ?c31 ?k31) (My.Dc KX G (by intros; rfl) ?a32 ?l32 ?c32 ?k32) (My.KI KX G (by intros; rfl) ?a33 ?l33 ?c33 ?k33) (My.Dc KX G (by intros; rfl) ?a34 ?l34 ?c34 ?k34) (My.M1 KX G (by intros; rfl) ?a35 ?l35 ?c35 ?k35) (My.Dc KX G (by intros; rfl) ?a36 ?l36 ?c36 ?k36) (My.Cn KX G (by intros; rfl) ?a37 ?l37 ?c37 ?k37) (My.Cn KX G (by intros; rfl) ?a38 ?l38 ?c38 ?k38) (My.Cn KX G (by intros; rfl) ?a39 ?l39 ?c39 ?k39) (My.KI KX G (by intros; rfl) ?a40 ?l40 ?c40 ?k40) (My.Cn KX G (by intros; rfl) ?a41 ?l41 ?c41 ?k41) (My.Cn KX G (by intros; rfl) ?a42 ?l42 ?c42 ?k42) (My.Dc KX G (by intros; rfl) ?a43 ?l43 ?c43 ?k43) (My.KI KX G (by intros; rfl) ?a44 ?l44 ?c44 ?k44) (My.Dc KX G (by intros; rfl) ?a45 ?l45 ?c45 ?k45) (My.Dc KX G (by intros; rfl) ?a46 ?l46 ?c46 ?k46) (My.KI KX G (by intros; rfl) ?a47 ?l47 ?c47 ?k47) (My.M1 KX G (by intros; rfl) ?a48 ?l48 ?c48 ?k48) (My.Dc KX G (by intros; rfl) ?a49 ?l49 ?c49 ?k49) ?a50 ?l50 ?c50 ?k50 ?z1 ?z2 ?z3 ?z4 ?z5 ?z6 ?z7 ?z8 ?z9 ?z10 ?z11 ?z12 ?z13 ?w0 ?w1 ?w2
    (case a1 => k_is); (case l1 => k_is); (case c1 => k_is); (case k1 => k_is); (case a2 => k_is); (case l2 => k_is); (case c2 => k_is); (case k2 => k_is); (case a3 => k_is); (case l3 => k_is); (case c3 => k_is); (case k3 => k_is); (case a4 => k_is); (case l4 => k_is); (case c4 => k_is); (case k4 => k_is); (case a5 => k_is); (case l5 => k_is); (case c5 => k_is); (case k5 => k_is); (case a6 => k_is); (case l6 => k_is); (case c6 => k_is); (case k6 => k_is); (case a7 => k_is); (case l7 => k_is); (case c7 => k_is); (case k7 => k_is); (case a8 => k_is); (case l8 => k_is); (case c8 => k_is); (case k8 => k_is); (case a9 => k_is); (case l9 => k_is); (case c9 => k_is); (case k9 => k_is); (case a10 => k_is); (case l10 => k_is); (case c10 => k_is); (case k10 => k_is); (case a11 => k_is); (case l11 => k_is); (case c11 => k_is); (case k11 => k_is); (case a12 => k_is); (case l12 => k_is); (case c12 => k_is); (case k12 => k_is); (case a13 => k_is); (case l13 => k_is); (case c13 => k_is); (case k13 => k_is); (case a14 => k_is); (case l14 => k_is); (case c14 => k_is); (case k14 => k_is); (case a15 => k_is); (case l15 => k_is); (case c15 => k_is); (case k15 => k_is); (case a16 => k_is); (case l16 => k_is); (case c16 => k_is); (case k16 => k_is); (case a17 => k_is); (case l17 => k_is); (case c17 => k_is); (case k17 => k_is); (case a18 => k_is); (case l18 => k_is); (case c18 => k_is); (case k18 => k_is); (case a19 => k_is); (case l19 => k_is); (case c19 => k_is); (case k19 => k_is); (case a20 => k_is); (case l20 => k_is); (case c20 => k_is); (case k20 => k_is); (case a21 => k_is); (case l21 => k_is); (case c21 => k_is); (case k21 => k_is); (case a22 => k_is); (case l22 => k_is); (case c22 => k_is); (case k22 => k_is); (case a23 => k_is); (case l23 => k_is); (case c23 => k_is); (case k23 => k_is); (case a24 => k_is); (case l24 => k_is); (case c24 => k_is); (case k24 => k_is); (case a25 => k_is); (case l25 => k_is); (case c25 => k_is); (case k25 => k_is); (case a26 => k_is); (case l26 => k_is); (case c26 => k_is); (case k26 => k_is); (case a27 => k_is); (case l27 => k_is); (case c27 => k_is); (case k27 => k_is); (case a28 => k_is); (case l28 => k_is); (case c28 => k_is); (case k28 => k_is); (case a29 => k_is); (case l29 => k_is); (case c29 => k_is); (case k29 => k_is); (case a30 => k_is); (case l30 => k_is); (case c30 => k_is); (case k30 => k_is); (case a31 => k_is); (case l31 => k_is); (case c31 => k_is); (case k31 => k_is); (case a32 => k_is); (case l32 => k_is); (case c32 => k_is); (case k32 => k_is); (case a33 => k_is); (case l33 => k_is); (case c33 => k_is); (case k33 => k_is); (case a34 => k_is); (case l34 => k_is); (case c34 => k_is); (case k34 => k_is); (case a35 => k_is); (case l35 => k_is); (case c35 => k_is); (case k35 => k_is); (case a36 => k_is); (case l36 => k_is); (case c36 => k_is); (case k36 => k_is); (case a37 => k_is); (case l37 => k_is); (case c37 => k_is); (case k37 => k_is); (case a38 => k_is); (case l38 => k_is); (case c38 => k_is); (case k38 => k_is); (case a39 => k_is); (case l39 => k_is); (case c39 => k_is); (case k39 => k_is); (case a40 => k_is); (case l40 => k_is); (case c40 => k_is); (case k40 => k_is); (case a41 => k_is); (case l41 => k_is); (case c41 => k_is); (case k41 => k_is); (case a42 => k_is); (case l42 => k_is); (case c42 => k_is); (case k42 => k_is); (case a43 => k_is); (case l43 => k_is); (case c43 => k_is); (case k43 => k_is); (case a44 => k_is); (case l44 => k_is); (case c44 => k_is); (case k44 => k_is); (case a45 => k_is); (case l45 => k_is); (case c45 => k_is); (case k45 => k_is); (case a46 => k_is); (case l46 => k_is); (case c46 => k_is); (case k46 => k_is); (case a47 => k_is); (case l47 => k_is); (case c47 => k_is); (case k47 => k_is); (case a48 => k_is); (case l48 => k_is); (case c48 => k_is); (case k48 => k_is); (case a49 => k_is); (case l49 => k_is); (case c49 => k_is); (case k49 => k_is); (case a50 => k_is); (case l50 => k_is); (case c50 => k_is); (case k50 => k_is); (case z1 => k_is); (case z2 => k_is); (case z3 => k_is); (case z4 => k_is); (case z5 => k_is); (case z6 => k_is); (case z7 => k_is); (case z8 => k_is); (case z9 => k_is); (case z10 => k_is); (case z11 => k_is); (case z12 => k_is); (case z13 => k_is); (case w0 => k_is); (case w1 => k_is); (case w2 => k_is)
